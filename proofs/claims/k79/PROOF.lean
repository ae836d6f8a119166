import PyProof.Rows.All
import Wide.All
import OpenK.AllK
import Wide.FinOn
import HandS.ForMost
import KE.KExcInit
import KE.KExcIs
import HandS.ExcInit
import HandS.ExcOwn
import HandS.ExcValue
import HandS.IsInst
import HandS.ForExc
import HandS.Star
import HandS.ClsMeth
import HandS.More
import HandS.Head0
import HandS.Head1
import HandS.Head2
import HandS.HeadEnd
import HandS.HeadHook4
import HandS.Text
import HandS.TupAny
import HandS.MapJoin
import HandS.SetKeys
import HandS.Style
import HandS.NoneIn
import HandS.GenList
import HandS.TupSets
import HandS.Iter
import HandS.RaiseMore
import HandS.List
import PyProof.AutoSeq1
import HandS.DictComp
import HandS.DictSub
import HandS.Wide
import PySem.Challenge.RW_maybegone_k79_programs_fixed
set_option Elab.async false
set_option linter.all false
set_option maxRecDepth 100000
set_option maxHeartbeats 4000000
namespace G
open PySem PySem.Spec PyProof.Rows L2

/-! ### heaps -/
/-- all that was tracked stands as it was, but for what stands at one of S -/
def Kp (S : List Addr) (H H' : Hp) : Prop := ∀ b o, b ∉ S → H b = some o → H' b = some o
theorem Kp.refl (S : List Addr) (H : Hp) : Kp S H H := fun _ _ _ h => h
theorem Kp.trans {S : List Addr} {H H1 H2 : Hp} (a : Kp S H H1) (b : Kp S H1 H2) : Kp S H H2 := fun c o d h => b c o d (a c o d h)
theorem Kp.mono {S T : List Addr} {H H' : Hp} (a : Kp S H H') (h : ∀ b, b ∈ S → b ∈ T) : Kp T H H' := fun c o d e => a c o (fun z => d (h c z)) e
/-- a new object -/
theorem Kp.new {S : List Addr} {p : Addr} {H H' : Hp} {o : HO} (a : Kp S H H') (h : H' p = none) : Kp S H (upd H' p o) := fun c u d e => by
  have q := a c u d e
  rw [upd_ne (ne_of_none q h)]
  exact q
/-- one of S is changed -/
theorem Kp.put {S : List Addr} {p : Addr} {H H' : Hp} {o : HO} (a : Kp S H H') (h : p ∈ S) : Kp S H (upd H' p o) := fun c u d e => by
  have hc : c ≠ p := fun z => d (by rw [z]; exact h)
  rw [upd_ne hc]
  exact a c u d e
/-- what was not there yet need not be kept -/
theorem Kp.fresh {S : List Addr} {p : Addr} {H H' : Hp} (a : Kp (p :: S) H H') (h : H p = none) : Kp S H H' := fun c u d e => a c u (fun z => by
  rcases List.mem_cons.mp z with z | z
  · rw [z, h] at e
    cases e
  · exact d z) e
theorem Kp.same {S : List Addr} {H H' : Hp} (s : Same H H') : Kp S H H' := fun c u _ e => s c u e
theorem Kp.toSame {H H' : Hp} (s : Kp [] H H') : Same H H' := fun c u e => s c u (fun z => by cases z) e
theorem Kp.seq {K : PySem.W.Frag} {S : List Addr} {a : Addr} {H H' : Hp} {xs : List V} (k : Kp S H H') (d : a ∉ S) (h : SqL K H a xs) : SqL K H' a xs := by
  rcases h with (h | ⟨o, h⟩) | h
  · exact .inl (.inl (k _ _ d h))
  · exact .inl (.inr ⟨o, k _ _ d h⟩)
  · exact .inr h

theorem Kp.none_of {S : List Addr} {a : Addr} {H H' : Hp} (k : Kp S H H') (h : H' a = none) (d : a ∉ S) : H a = none := by
  cases e : H a with
  | none => rfl
  | some o =>
    rw [k a o d e] at h
    cases h

/-! ### the deck -/
/-- a list of a list of numbers, and of a count of at most n -/
structure Deck (H : Hp) (D L : Addr) (n : Nat) : Prop where
  ne : D ≠ L
  ex : ∃ (m : Int) (ns : List Int), H D = some (.lst [.ref L, .int m]) ∧ H L = some (.lst (ns.map V.int)) ∧ 0 ≤ m ∧ m ≤ (n : Int) ∧ ns.length ≤ 63 ∧ ∀ x ∈ ns, 0 ≤ x
theorem Deck.mono {H : Hp} {D L : Addr} {n n' : Nat} (d : Deck H D L n) (h : n ≤ n') : Deck H D L n' := by
  obtain ⟨ne, m, ns, h1, h2, h3, h4, h5, h6⟩ := d
  exact ⟨ne, m, ns, h1, h2, h3, by omega, h5, h6⟩
theorem Deck.kp {S : List Addr} {H H' : Hp} {D L : Addr} {n : Nat} (d : Deck H D L n) (k : Kp S H H') (hD : D ∉ S) (hL : L ∉ S) : Deck H' D L n := by
  obtain ⟨ne, m, ns, h1, h2, h3⟩ := d
  exact ⟨ne, m, ns, k _ _ hD h1, k _ _ hL h2, h3⟩
theorem Deck.new {H : Hp} {D L p : Addr} {n : Nat} {o : HO} (d : Deck H D L n) (h : H p = none) : Deck (upd H p o) D L n :=
  d.kp (Kp.new (Kp.refl [] H) h) (fun z => by cases z) (fun z => by cases z)
theorem Deck.neD {H : Hp} {D L p : Addr} {n : Nat} (d : Deck H D L n) (h : H p = none) : p ≠ D ∧ p ≠ L := by
  obtain ⟨ne, m, ns, h1, h2, h3⟩ := d
  exact ⟨(ne_of_none h1 h).symm, (ne_of_none h2 h).symm⟩

/-- the built-in names that are used -/
structure Bi (mg : Str → Option Value) : Prop where
  z_len : mg "len" = none
  z_abs : mg "abs" = none
  z_int : mg "int" = none
  z_range : mg "range" = none

theorem cut_all {xs : List V} (h : xs.length ≤ 63) : cutV xs none (some 63) = xs := by
  unfold cutV
  rw [HT.sIx_none, show HT.sIx xs.length xs.length (some 63) = min 63 xs.length from HT.sIx_nat xs.length xs.length 63]
  show List.take (min 63 xs.length - 0) (List.drop 0 xs) = xs
  rw [List.drop_zero, Nat.min_eq_right h, Nat.sub_zero, List.take_length]
def iabs (i : Int) : Int := if i < 0 then -i else i
theorem iabs_nonneg (i : Int) : 0 ≤ iabs i := by
  unfold iabs
  split <;> omega
theorem take_step {α : Type} {l : List α} {i : Nat} {x : α} (h : l[i]? = some x) : l.take (i + 1) = l.take i ++ [x] := by
  rw [List.take_add_one, h]
  all_goals rfl
theorem line1000 {n : Nat} (h : n ≤ 1000) : n ≤ sizeLine := Nat.le_of_lt (small1000 h)
end G

set_option Elab.async false
set_option linter.all false
set_option maxRecDepth 100000
set_option maxHeartbeats 4000000
/-! A def that is called where nothing guards against itself (the law at the very top): there repr of nested data may be used. -/
namespace G
open PySem PySem.Spec PyProof.Rows L2
/-- repr of data without dicts -/
def rRepr (K : PySem.W.Frag) : List V → Hp → VK → Prop := fun vs H Q => ∃ (v : V) (d : PyData), vs = [v] ∧ Dp K H v d ∧ d.showable = true ∧
  d.hasDict = false ∧ d.depth ≤ 100 ∧ d.shown.length ≤ sizeLine ∧ Q (.str d.shown) H
theorem call_reprD {X : Cx} (hg : X.A.guards = some []) (hu : X.A.units + 101 < cLine) : CallR X (.builtin "repr") (rRepr X.K) := by
  intro pins s σ H vs us Q I r h
  obtain ⟨v, d, rfl, hd, hs, hn, hdep, hz, q⟩ := h
  obtain ⟨u, rfl, rv⟩ := vals1 r
  obtain ⟨as, rd⟩ := Dp.reads I d v u hd rv
  cases hd with
  | non =>
    cases rv
    exact PySem.P.repr_of_none ⟨.str _, H, I.tok _, ⟨_, rfl⟩, by simpa only [PyData.shown] using q⟩
  | bl b =>
    cases rv
    exact PySem.P.repr_of_bool ⟨.str _, H, I.tok _, ⟨_, rfl⟩, by simpa only [PyData.shown] using q⟩
  | int i =>
    obtain ⟨t, rfl⟩ := rv
    exact PySem.P.repr_of_int (by simpa [PyData.showable] using hs) ⟨.str _, H, I.tok _, ⟨_, rfl⟩, by simpa only [PyData.shown] using q⟩
  | str x =>
    obtain ⟨t, rfl⟩ := rv
    exact PySem.P.repr_of_str ⟨.str _, H, I.tok _, ⟨_, rfl⟩, by simpa only [PyData.shown] using q⟩ (by simpa only [PyData.shown] using hz)
  | lst h1 h2 =>
    cases rv
    exact repr_of_reads' rd hs (PyData.noDict_hsm hn) hg (by omega) (fun _ _ e => e) (fun h' t tk hk => ⟨.str _, H, I.kept hk, ⟨_, rfl⟩, q⟩) hz
  | tup h1 h2 =>
    cases rv
    exact repr_of_reads' rd hs (PyData.noDict_hsm hn) hg (by omega) (fun _ _ e => e) (fun h' t tk hk => ⟨.str _, H, I.kept hk, ⟨_, rfl⟩, q⟩) hz
/-- a def's promise where no guard stands around the call -/
structure FnOkG (P : Program) (w : World) (K : PySem.W.Frag) (mg : Str → Option Value) (base : Heap) (k : Nat) (f : Addr) (fd : FuncData) (ps : List Str) (sp : Sp) : Prop where
  len : ∀ vs H Q E, sp vs H Q E → vs.length = ps.length
  run : ∀ (A : Around) (outer : List Env) (s : Shared) (H : Hp) (args : Args) (us : List Value) (vs : List V) (Q : VK) (E : XK),
    A.guards = some [] → Room k A → Env0 P w K mg base A outer s H → BindsTo s fd args (ps.zip us) →
    Vals vs us → sp vs H Q E →
    codeAny (model P w) A (.call (.ref f) args) (CR CX0 outer P w H s Q E) s
/-- the rule for such a def: its body as a term of rules, and the reading of that term -/
theorem Fun.okG {P : Program} {w : World} {K : PySem.W.Frag} {mg : Str → Option Value} {base : Heap} {x qual : Str} {st : Stmt} {f : Addr} {fd : FuncData}
    {N ps : List Str} {k : Nat} {sp : Sp} (F : Fun K x qual st f fd) (S : FnScope N ps (defScope st)) (len : ∀ vs H Q E, sp vs H Q E → vs.length = ps.length)
    (body : ∀ (cdv : Value) (A : Around) (outer : List Env) (s : Shared) (H : Hp) (vs : List V) (Q : VK) (E : XK), A.guards = some [] →
      Room k (A.deeper (envOfC qual (defScope st) s.heap.objs.size f cdv)) → sp vs H Q E →
      ∃ t, PSs (cxOf CX0 P w K mg base N qual (defScope st) f cdv A outer s H E).nox (defBody st) t ∧
        t { nx := fun _ H' => Q .non H', rt := Q } (start N vs) H) : FnOkG P w K mg base (k + 1) f fd ps sp := by
  obtain ⟨oc, od, kV, doc, pm, an, cdv, ct, osl, rfl, lk, hcd⟩ := F.ex
  refine ⟨len, fun A outer s H args us vs Q E hg hr e0 hb r hsp => ?_⟩
  have nvs := len _ _ _ _ hsp
  have kept0 : ∀ b o, base.get? b = some o → s.heap.get? b = some o := fun b o e => (e0.bs b o e).1
  have KS : K.In s.heap := e0.mod.kin.keeps kept0
  have NL : s.heap.NoLimit := e0.mod.nolimit.keeps kept0
  have kinds : ∀ y ∈ ps.zip us, (defScope st).names.lookup y.1 = some .local ∨ ((defScope st).names.lookup y.1 = some .cell ∧
      ((cellsFrom (s.heap.objs.size + 1) (defScope st).names []).lookup y.1).isSome = true) := by
    rintro ⟨n, v⟩ hy
    have hm := (List.of_mem_zip hy).1
    cases S.par n hm with
    | inl z => exact Or.inl z
    | inr z => exact Or.inr ⟨z, PySem.W.cellsFrom_some _ _ _ (Or.inl z)⟩
  refine codeAny_call_function hr.depth (KS _ _ lk) rfl S.co S.gen rfl (PySem.W.codeRec_of KS hcd) (hb _ _ _ _ ?_)
  refine wpAny_newFunctionEnv_cells S.kind kinds fun env he s1 x1 => ?_
  subst he
  refine ⟨NL.keeps x1.toInCall.keep, codeAny_func ?_⟩
  obtain ⟨t, ht0, hq⟩ := body cdv A outer s H vs Q E hg (hr.deeper _) hsp
  have ht := ht0.nox
  have J0 : Inv (cxOf CX0 P w K mg base N qual (defScope st) f cdv A outer s H E) [] (start N vs) H s1 :=
    inv_start S hr.hd e0 nvs r x1
  refine wpAny_mono (ht.run [] s1 (start N vs) H _ J0 hq) (fun fl s2 hs => ?_) fun e s2 hs => hs
  cases fl with
  | next =>
    obtain ⟨σ2, H2, J, q⟩ := hs
    exact ⟨V.non, H2, J.os, J.bare, J.base, J.hok, rfl, q⟩
  | ret u =>
    obtain ⟨v, σ2, H2, J, rv, q⟩ := hs
    exact ⟨v, H2, J.os, J.bare, J.base, J.hok, rv, q⟩
  | brk =>
    obtain ⟨_, _, _, q⟩ := hs
    exact False.elim q
  | cont =>
    obtain ⟨_, _, _, q⟩ := hs
    exact False.elim q
/-! ### the end: the law's own def by such a promise -/
/-- what the law promises: at a list of at most n ints it gives True -/
def spLawN (K : PySem.W.Frag) (n : Nat) : Sp := fun vs H Q _ => ∃ (a : Addr) (ns : List Int), vs = [.ref a] ∧ SqL K H a (ns.map V.int) ∧ ns.length ≤ n ∧ ∀ H', Q (.bl true) H'
/-- one abstract heap, in which nothing but the script may be tracked, is enough -/
theorem call_at {P : Program} {w : World} {K : PySem.W.Frag} {mg mb : Str → Option Value} {k n : Nat} {fa a : Addr} {fd : FuncData} {x : Str}
    {s₁ : Shared} {vs : List Value} {ns : List Int} (KX : K.In s₁.heap) (hns : s₁.heap.Ns mainGlobals mg) (hb : s₁.heap.Ns builtinsNs mb)
    (hbb : ∀ x : Str, x ≠ "__name__" → mb x = bootBuiltins x) (hlim : s₁.heap.NoLimit) (hg : s₁.gens = #[])
    (ha : s₁.heap.get? a = some { cls := .type "list", data := .seq vs.toArray }) (hln : ns.length ≤ n) (hr : Room k callerA)
    (F : ∀ base : Heap, K.In base → base.Ns mainGlobals mg → FnOkG P w K mg base k fa fd [x] (spLawN K n))
    (hbind : ∀ (s : Shared) (u : Value), BindsTo s fd ⟨[u], []⟩ [(x, u)])
    (H : Hp) (hO : ∀ b, H b = none ∨ ∃ o xs, H b = some (.frz o (.lst xs))) (hS : SqL K H a (ns.map V.int)) (hok : HOk P w H s₁.heap)
    (hA : ∀ b, H b ≠ none → b = a) (hK : H a ≠ none → K.lookup a = none) :
    codeAny (model P w) callerA (.call (.ref fa) ⟨[.ref a], []⟩)
      (fun r s' => r = .ok (.ret (.bool true)) ∧ OldK s₁.heap s'.heap ∧ s'.os = s₁.os ∧ AllBare s'.gens) s₁ := by
  have seen : ∀ {b : Addr} {o : Obj}, s₁.heap.get? b = some o → H b = none → (hidT s₁.heap H).get? b = some o := fun e z => hidT_get e z
  have dictFree : ∀ {b : Addr} {o : Obj} {es : Array DictEntry} {ep : Nat}, s₁.heap.get? b = some o → o.data = .dict es ep → H b = none := by
    intro b o es ep e d
    cases q : H b with
    | none => rfl
    | some u =>
      obtain rfl : b = a := hA b (by simp [q])
      rw [ha] at e
      cases e
      exact nomatch (show Data.seq vs.toArray _ = Data.dict es ep from d)
  have nsOf : ∀ {b : Addr} {m : Str → Option Value}, s₁.heap.Ns b m → (hidT s₁.heap H).Ns b m := by
    rintro b m ⟨o, es, ep, e, d, r⟩
    exact ⟨o, es, ep, seen e (dictFree e d), d, r⟩
  have inB : K.In (hidT s₁.heap H) := by
    intro b o e
    refine seen (KX b o e) ?_
    cases q : H b with
    | none => rfl
    | some u =>
      obtain rfl : b = a := hA b (by simp [q])
      rw [hK (by simp [q])] at e
      cases e
  have md : Mod K mg (hidT s₁.heap H) := by
    obtain ⟨mc, l1, l2⟩ := hlim
    exact ⟨inB, nsOf hns, ⟨mb, nsOf hb, hbb⟩, ⟨mc, nsOf l1, l2⟩⟩
  have en : Env0 P w K mg (hidT s₁.heap H) callerA [] s₁ H :=
    { frames := rfl, mod := md, bs := fun b o e => of_hidT e, bsz := Nat.le_of_eq (hidT_size _ _), funs := trivial
      frf := fun b hb => by cases hb
      hok := hok, bare := .of_eq hg }
  have FB := F _ inB (nsOf hns)
  refine codeAny_mono (FB.run callerA [] s₁ H ⟨[.ref a], []⟩ [.ref a] [.ref a] (fun v _ => v = .bl true) (fun _ _ _ => False) rfl hr en
    (hbind s₁ (.ref a)) (.cons rfl .nil) ⟨a, ns, rfl, hS, hln, fun _ => rfl⟩) fun r s' h => ?_
  match r, h with
  | .ok (.ret u), h =>
    obtain ⟨v, H', os, bare, un, hok', r', q⟩ := h
    have ev : v = .bl true := q
    subst ev
    have eu : u = Value.bool true := r'
    subst eu
    refine ⟨rfl, OldK.of_keep fun b o e => ?_, os, bare⟩
    cases q2 : H b with
    | none => exact un.keep b o e q2 (by simp [frs]) (by simp)
    | some u2 =>
      rcases hO b with z | ⟨ob, xs, z⟩
      · rw [q2] at z
        cases z
      · obtain ⟨w1, _⟩ := hok b _ z
        obtain ⟨w2, _⟩ := hok' b _ (un.frzs b ob _ z)
        rw [e] at w1
        cases w1
        exact w2
  | .ok .next, h => exact False.elim h
  | .ok .brk, h => exact False.elim h
  | .ok .cont, h => exact False.elim h
  | .error e, h => exact False.elim h
theorem walk_ofG {l : PySem.W.OpenLaw} {n k : Nat} {q : Program} {loose : List Str} {XP : (Str → Option Value) → Heap → Prop} {YP : World → Heap → Prop}
    {d : DefRec} {K : Params → PySem.W.Frag} {x : Str} (hn : l.most = some n) (hn2 : n ≤ sizeLine) (hdf : d.params.defaults = []) (hr : Room k callerA)
    (hY : ∀ (w : World) (h : Heap), YP w h → (K w.params).In h)
    (F : ∀ (w : World) (mg : Str → Option Value) (fa : Addr) (h : Heap), (K w.params).In h → h.Ns mainGlobals mg → mg d.name = some (.ref fa) →
      ∃ fd : FuncData, (∀ (s : Shared) (u : Value), BindsTo s fd ⟨[u], []⟩ [(x, u)]) ∧
        ∀ base : Heap, (K w.params).In base → base.Ns mainGlobals mg → FnOkG l.prog w (K w.params) mg base k fa fd [x] (spLawN (K w.params) n)) :
    PySem.W.WalkO q loose XP YP l.row.toRowW d [] (fun f vs => PySem.call f vs) := by
  refine Att.attach_call hn hdf fun w s₀ s₁ mg mb fa o pm cd doc a vs ns Gr Y ho hd hcd hmg hobj hints hlen hgens => ?_
  have KX := hY w _ Y
  obtain ⟨fd, hb, hF⟩ := F w mg fa _ KX Gr.T.g hmg
  have rv := vals_ints hints
  have hl : ns.length ≤ sizeLine := Nat.le_trans hlen hn2
  have goal := @call_at l.prog w (K w.params) mg mb k n fa a fd x s₁ vs ns KX Gr.T.g Gr.T.b Gr.T.builtins Gr.T.nolimit hgens hobj hlen hr hF hb
  cases hk : (K w.params).lookup a with
  | some o1 =>
    have e := KX a o1 hk
    rw [hobj] at e
    cases e
    refine goal (fun _ => none) (fun _ => Or.inl rfl) (Or.inr ⟨_, vs.toArray, _, hk, rfl, rfl, rfl, ?_, by simpa using rv⟩) (fun b u z => nomatch z) (fun b z => absurd rfl z) fun z => absurd rfl z
    rw [List.size_toArray, hints.length]
    exact hl
  | none =>
    let frozen : HO := .frz { cls := .type "list", data := .seq vs.toArray } (.lst (ns.map V.int))
    have at_a : ∀ b, b = a → (fun b => if b = a then some frozen else none : Hp) b = some frozen := fun b hb => if_pos hb
    have off_a : ∀ b, b ≠ a → (fun b => if b = a then some frozen else none : Hp) b = none := fun b hb => if_neg hb
    refine goal (fun b => if b = a then some frozen else none) (fun b => ?_) (Or.inl (Or.inr ⟨_, at_a a rfl⟩)) (fun b u z => ?_) (fun b z => ?_) fun _ => hk
    · by_cases hb : b = a
      · exact Or.inr ⟨_, _, at_a b hb⟩
      · exact Or.inl (off_a b hb)
    · by_cases hb : b = a
      · rw [at_a b hb] at z
        cases z
        subst hb
        exact ⟨hobj, by rw [List.length_map]; exact hl, vs, _, rv, hobj⟩
      · rw [off_a b hb] at z
        cases z
    · by_cases hb : b = a
      · exact hb
      · exact absurd (off_a b hb) z
end G

set_option Elab.async false
set_option linter.all false
set_option maxRecDepth 100000
set_option maxHeartbeats 4000000
/-! How long a shown text may be; repr of data and of small dicts. -/
namespace G
open PySem PySem.Spec PyProof.Rows L2
/-- a text of Unicode's signs -/
def OkS (x : Str) : Prop := ∀ c ∈ x.cps.toList, c < 1114112
theorem OkS.of (s : String) : OkS (Str.ofString s) := by
  intro c hc
  rw [PyProof.Rows.signs_ofString] at hc
  obtain ⟨d, _, rfl⟩ := List.mem_map.mp hc
  have h := d.valid
  have z : d.toNat = d.val.toNat := rfl
  rw [z]
  rcases h with h | ⟨_, h⟩
  · exact Nat.lt_trans h (by decide)
  · exact h
theorem OkS.app {x y : Str} (a : OkS x) (b : OkS y) : OkS (x ++ y) := by
  intro c hc
  have e : (x ++ y).cps.toList = x.cps.toList ++ y.cps.toList := by
    show (x.cps ++ y.cps).toList = _
    rw [Array.toList_append]
  rw [e] at hc
  rcases List.mem_append.mp hc with h | h
  · exact a c h
  · exact b c h
theorem reprChar_le {q c : Nat} (hc : c < 1114112) : (PySem.Builtin.Str.reprChar q c).length ≤ 10 := by
  have h6 : (Nat.toDigits 16 c).length ≤ 6 := by
    refine (Nat.length_toDigits_le_iff (by decide) (by decide)).mpr ?_
    omega
  unfold PySem.Builtin.Str.reprChar
  simp only []
  have hl : ∀ w : Nat, w ≤ 8 → (List.replicate (w - ((Nat.toDigits 16 c).map Char.toNat).length) 48 ++ (Nat.toDigits 16 c).map Char.toNat).length ≤ 8 := by
    intro w hw
    rw [List.length_append, List.length_replicate, List.length_map]
    omega
  have h2 := hl 2 (by decide)
  have h4 := hl 4 (by decide)
  have h8 := hl 8 (by decide)
  repeat' split
  all_goals first
    | decide
    | (simp only [List.length_cons, List.length_nil]; omega)
    | (rw [List.length_append]; simp only [List.length_cons, List.length_nil]; omega)
theorem reprText_le {x : Str} (h : OkS x) : (reprText x).length ≤ 10 * x.length + 2 := by
  rw [← reprLen_eq, ← Array.foldl_toList]
  have key : ∀ (l : List Nat) (n : Nat), (∀ c ∈ l, c < 1114112) → l.foldl (fun n c => n + (PySem.Builtin.Str.reprChar (reprQuote x) c).length) n ≤ n + 10 * l.length := by
    intro l
    induction l with
    | nil => intro n _; exact Nat.le_refl _
    | cons c r ih =>
      intro n hb
      have h1 := reprChar_le (q := reprQuote x) (hb c (List.mem_cons_self ..))
      have h2 := ih (n + (PySem.Builtin.Str.reprChar (reprQuote x) c).length) fun d hd => hb d (List.mem_cons_of_mem _ hd)
      rw [List.foldl_cons, List.length_cons]
      omega
  have z := key x.cps.toList 2 h
  rw [Array.length_toList] at z
  have e : x.length = x.cps.size := rfl
  omega
mutual
/-- a bound of the shown text -/
def big : PyData → Nat
  | .none => 4
  | .bool _ => 5
  | .int i => (Str.ofString (toString i)).length
  | .str x => 10 * x.length + 2
  | .list xs => bigs xs + 4
  | .tuple xs => bigs xs + 4
  | .dict kvs => bigKv kvs + 4
def bigs : List PyData → Nat
  | [] => 0
  | x :: xs => big x + 2 + bigs xs
def bigKv : List (PyData × PyData) → Nat
  | [] => 0
  | (k, v) :: r => big k + big v + 4 + bigKv r
end
mutual
/-- its texts are of Unicode's signs -/
def OkD : PyData → Prop
  | .none | .bool _ | .int _ => True
  | .str x => OkS x
  | .list xs | .tuple xs => OkDs xs
  | .dict kvs => OkKv kvs
def OkDs : List PyData → Prop
  | [] => True
  | x :: xs => OkD x ∧ OkDs xs
def OkKv : List (PyData × PyData) → Prop
  | [] => True
  | (k, v) :: r => OkD k ∧ OkD v ∧ OkKv r
end
theorem textFrom_le : ∀ (ts : List Str) (k : Nat) (acc : Str), (textFrom k acc ts).length ≤ acc.length + piled ts
  | [], k, acc => by show acc.length ≤ acc.length + piled []; omega
  | t :: r, k, acc => by
    have ih := textFrom_le r (k + 1) (acc ++ (if k > 0 then ", " else "" : String) ++ t)
    show (textFrom (k + 1) (acc ++ (if k > 0 then ", " else "" : String) ++ t) r).length ≤ _
    rw [piled_cons]
    rw [strLen_append, strLen_append] at ih
    have z : (Str.ofString (if k > 0 then ", " else "" : String)).length ≤ 2 := by
      split <;> decide
    omega
theorem join_le (ts : List Str) : (Str.join ", " ts).length ≤ piled ts := by
  by_cases h : ts = []
  · subst h
    exact Nat.zero_le _
  · have := join_length_add ts h
    omega
mutual
theorem shown_le : ∀ d : PyData, OkD d → d.shown.length ≤ big d
  | .none, _ => by
    simp only [PyData.shown, big]
    decide
  | .bool b, _ => by
    simp only [PyData.shown, big]
    cases b <;> decide
  | .int i, _ => by
    simp only [PyData.shown, big]
    exact Nat.le_refl _
  | .str x, h => by
    simp only [PyData.shown, big]
    exact reprText_le (by simpa only [OkD] using h)
  | .list xs, h => by
    simp only [PyData.shown, big]
    have z := shownAll_le xs (by simpa only [OkD] using h)
    have y := textFrom_le (PyData.shownAll xs) 0 "["
    unfold listText
    rw [strLen_append]
    have e1 : ("[" : Str).length = 1 := rfl
    have e2 : ("]" : Str).length = 1 := rfl
    omega
  | .tuple xs, h => by
    simp only [PyData.shown, big]
    have z := shownAll_le xs (by simpa only [OkD] using h)
    have y := join_le (PyData.shownAll xs)
    unfold tupleText
    rw [strLen_append, strLen_append]
    have e1 : ("(" : Str).length = 1 := rfl
    have e2 : (Str.ofString (if (PyData.shownAll xs).length == 1 then ",)" else ")" : String)).length ≤ 2 := by split <;> decide
    omega
  | .dict kvs, h => by
    simp only [PyData.shown, big]
    have z := shownKv_le kvs (by simpa only [OkD] using h)
    have y := join_le (PyData.shownKv kvs)
    unfold dictText
    rw [strLen_append, strLen_append]
    have e1 : ("{" : Str).length = 1 := rfl
    have e2 : ("}" : Str).length = 1 := rfl
    omega
theorem shownAll_le : ∀ ds : List PyData, OkDs ds → piled (PyData.shownAll ds) ≤ bigs ds
  | [], _ => by
    simp only [PyData.shownAll, bigs]
    exact Nat.le_refl _
  | x :: xs, h => by
    simp only [OkDs] at h
    simp only [PyData.shownAll, bigs]
    rw [piled_cons]
    have a := shown_le x h.1
    have b := shownAll_le xs h.2
    omega
theorem shownKv_le : ∀ ds : List (PyData × PyData), OkKv ds → piled (PyData.shownKv ds) ≤ bigKv ds
  | [], _ => by
    simp only [PyData.shownKv, bigKv]
    exact Nat.le_refl _
  | (k, v) :: r, h => by
    simp only [OkKv] at h
    simp only [PyData.shownKv, bigKv]
    rw [piled_cons, strLen_append, strLen_append]
    have a := shown_le k h.1
    have b := shown_le v h.2.1
    have c := shownKv_le r h.2.2
    have e : (": " : Str).length = 2 := rfl
    omega
end
theorem big_int {i : Int} {k : Nat} (hk : 0 < k) (h : i.natAbs < 10 ^ k) : big (.int i) ≤ k + 1 := by
  show (Str.ofString (toString i)).length ≤ k + 1
  rw [PySem.ofString_length]
  exact int_text_length_le10 hk h
end G

set_option Elab.async false
set_option linter.all false
set_option maxRecDepth 100000
set_option maxHeartbeats 4000000
/-! Data kept; repr of it; calls of defs whose promise asks that no guard stands around. -/
namespace G
open PySem PySem.Spec PyProof.Rows L2
theorem Kp.sqt {K : PySem.W.Frag} {S : List Addr} {a : Addr} {H H' : Hp} {xs : List V} (k : Kp S H H') (d : a ∉ S) (h : SqT K H a xs) : SqT K H' a xs := by
  rcases h with (h | ⟨o, h⟩) | h
  · exact .inl (.inl (k _ _ d h))
  · exact .inl (.inr ⟨o, k _ _ d h⟩)
  · exact .inr h
theorem Same.sqt {K : PySem.W.Frag} {a : Addr} {H H' : Hp} {xs : List V} (k : Same H H') (h : SqT K H a xs) : SqT K H' a xs := (Kp.same (S := []) k).sqt (fun z => nomatch z) h
mutual
theorem Dp.keep {K : PySem.W.Frag} {H H' : Hp} (k : Same H H') : ∀ (d : PyData) (v : V), Dp K H v d → Dp K H' v d
  | .none, _, h => by cases h; exact .non
  | .bool b, _, h => by cases h; exact .bl b
  | .int i, _, h => by cases h; exact .int i
  | .str x, _, h => by cases h; exact .str x
  | .list ds, _, h => by
    cases h with
    | lst h1 h2 => exact .lst (k.seq h1) (Dp.keeps k ds _ h2)
  | .tuple ds, _, h => by
    cases h with
    | tup h1 h2 => exact .tup (Same.sqt k h1) (Dp.keeps k ds _ h2)
  | .dict _, _, h => nomatch h
theorem Dp.keeps {K : PySem.W.Frag} {H H' : Hp} (k : Same H H') : ∀ (ds : List PyData) (vs : List V), DpAll K H vs ds → DpAll K H' vs ds
  | [], _, h => by cases h; exact .nil
  | d :: ds, _, h => by
    cases h with
    | cons h1 h2 => exact .cons (Dp.keep k d _ h1) (Dp.keeps k ds _ h2)
end
/-- what v shows when it is printed: data, or a small dict -/
def Shows (K : PySem.W.Frag) (H : Hp) (v : V) (d : PyData) : Prop := (Dp K H v d ∧ d.hasDict = false) ∨ (∃ a, v = .ref a ∧ H a = some (.dK []) ∧ d = .dict []) ∨
  ∃ (a : Addr) (x : Str) (i : Int), v = .ref a ∧ H a = some (.dK [(.inr x, .int i)]) ∧ d = .dict [(.str x, .int i)]
theorem Shows.keep {K : PySem.W.Frag} {H H' : Hp} {v : V} {d : PyData} (h : Shows K H v d) (k : Same H H') : Shows K H' v d := by
  rcases h with ⟨h, n⟩ | ⟨a, e, h, n⟩ | ⟨a, x, i, e, h, n⟩
  · exact .inl ⟨Dp.keep k d v h, n⟩
  · exact .inr (.inl ⟨a, e, k _ _ h, n⟩)
  · exact .inr (.inr ⟨a, x, i, e, k _ _ h, n⟩)
def rShow (K : PySem.W.Frag) : List V → Hp → VK → Prop := fun vs H Q => ∃ (v : V) (d : PyData), vs = [v] ∧ Shows K H v d ∧ d.showable = true ∧ OkD d ∧ d.depth ≤ 100 ∧ big d ≤ 1000000 ∧ Q (.str d.shown) H
theorem call_show {X : Cx} (hg : X.A.guards = some []) (hu : X.A.units + 101 < cLine) : CallR X (.builtin "repr") (rShow X.K) := by
  intro pins s σ H vs us Q I r h
  obtain ⟨v, d, rfl, hd, hs, ok, hdep, hb, q⟩ := h
  have hz : d.shown.length ≤ sizeLine := Nat.le_trans (shown_le d ok) (by rw [sizeLine_eq]; omega)
  have dict : ∀ (a : Addr) (kvs : List (Key × V)) (ds : List (PyData × PyData)), v = .ref a → H a = some (.dK kvs) → d = .dict ds →
      (∀ vs es, KV kvs vs → Pairs (mixKind X.prog X.w) es vs → ∃ as bs, ReadsAll s.heap (es.map (·.key)) (ds.map (·.1)) as ∧ ReadsAll s.heap (es.map (·.val)) (ds.map (·.2)) bs ∧ as = [] ∧ bs = []) →
      wpAny (model X.prog X.w) X.A (call (.builtin "repr") us) (EP X pins σ Q) X.xe s := by
    rintro a kvs ds rfl ha rfl hall
    obtain ⟨u, rfl, rv⟩ := vals1 r
    obtain rfl : u = Value.ref a := rv
    obtain ⟨_, hsm, ws, hkv, o, es, ep, ho, hex, hdt, _, hp, _⟩ := (show ObjOk X.prog X.w H s.heap a (.dK kvs) from I.hok a _ ha)
    obtain ⟨as, bs, r1, r2, e1, e2⟩ := hall ws es.toList hkv hp
    subst e1 e2
    refine repr_of_reads' (Reads.dict ho hex.1 hdt r1 r2) hs (fun _ hm => ?_) hg (by omega) (fun _ _ e => e) (fun h' t tk hk => ⟨.str _, H, I.kept hk, ⟨_, rfl⟩, q⟩) hz
    rw [List.append_nil, List.mem_singleton] at hm
    rw [hm] at hsm
    simp at hsm
  rcases hd with ⟨hd, hn⟩ | ⟨a, ev, ha, ed⟩ | ⟨a, x, i, ev, ha, ed⟩
  · exact call_reprD hg hu pins s σ H _ us Q I r ⟨v, d, rfl, hd, hs, hn, hdep, hz, q⟩
  · refine dict a [] [] ev ha ed fun vs es hkv hp => ?_
    cases hkv
    cases hp
    exact ⟨[], [], .nil, .nil, rfl, rfl⟩
  · refine dict a _ _ ev ha ed fun vs es hkv hp => ?_
    cases hkv with
    | @cons _ b _ l2 h1 h2 =>
      cases h2
      obtain ⟨k1, v1⟩ := b
      obtain ⟨e1, e2⟩ := h1
      obtain ⟨t, e2⟩ := e2
      dsimp only at e1 e2
      subst e1 e2
      cases hp with
      | @cons e kv es kvs h3 h4 h5 =>
        cases h5
        rcases keyIs_shape (k := Sum.inr x) (v := e.key) h3 with ⟨j, t2, z, _⟩ | ⟨y, t2, z, e3⟩
        · cases z
        cases z
        refine ⟨[], [], ?_, ?_, rfl, rfl⟩
        · show ReadsAll s.heap [e.key] [.str x] []
          rw [e3]
          exact .cons (as := []) (bs := []) (.str x t2) .nil
        · show ReadsAll s.heap [e.val] [.int i] []
          rw [h4]
          exact .cons (as := []) (bs := []) (.int i t) .nil
/-! ### calls where no guard stands around -/
def tCallG (sp : Sp) (t : TA) : TE := fun σ H Q => t σ H fun vs H1 => sp vs H1 Q E0
section
variable {X : Cx} {k : Nat} {f : Addr} {fd : FuncData} {ps : List Str} {sp : Sp} {x : Str} {p pos : Pos} {e : Expr} {es : List Expr} {t : TA}
theorem run_G {pins : List (Addr × Obj)} {σ : L2.St} {H : Hp} {s : Shared} {Q : VK} {us : List Value} {vs : List V} (F : FnOkG X.prog X.w X.K X.mg X.base k f fd ps sp) (gu : X.A.guards = some []) (hr : Room k X.A) (hb : Binds X.K fd ps [])
    (I : Inv X pins σ H s) (r : Vals vs us) (h : sp vs H Q E0) : wpAny (model X.prog X.w) X.A (call (.ref f) us) (EP X pins σ Q) X.xe s := by
  have hl : us.length = ps.length := r.length.symm.trans (F.len _ _ _ _ h)
  have b := hb s us I.kIn (by rw [List.append_nil]; exact hl)
  rw [List.append_nil] at b
  refine wpAny_call (codeAny_mono (F.run X.A X.stack s H ⟨us, []⟩ us vs Q E0 gu hr I.env0 b r h) fun r s' hq => ?_)
  match r, hq with
  | .error e, hq => exact False.elim hq
  | .ok (.ret u), hq => exact I.after hq
  | .ok .next, hq => exact False.elim hq
  | .ok .brk, hq => exact False.elim hq
  | .ok .cont, hq => exact False.elim hq
theorem pe_callG (F : FnOkG X.prog X.w X.K X.mg X.base k f fd ps sp) (gu : X.A.guards = some []) (hr : Room k X.A) (hg : Gl X x) (hm : X.mg x = some (.ref f)) (hk : PySem.W.keepIn X.K (.ref f) = true) (hb : Binds X.K fd ps [])
    (ha : PA X (e :: es) t) (hdb : (x == ("__debug__" : Str)) = false := by decide) (he : starEach (e :: es) X.env = (false, eval e X.env) :: starEach es X.env := by rfl) (hpl : (backTo pos (starEach es X.env)).any (·.1) = false := by rfl) :
    PE X (.Call (.Name x p) (e :: es) [] pos) (tCallG sp t) := by
  refine ⟨fun pins s σ H Q I h => wpAny_Call_Name_kw (ld_glob I hg hm ?_ hdb)⟩
  exact PySem.W.callWith_K (h₀ := X.base) I.ok.mod.kin hk (thn (ha.run pos pins s σ H _ I h) fun us s1 ⟨vs, H1, I1, r, q⟩ => ⟨I1.kIn, run_G F gu hr hb I1 r q⟩) he hpl
end
end G

set_option Elab.async false
set_option linter.all false
set_option maxRecDepth 100000
set_option maxHeartbeats 4000000
/-! What is printed is of Unicode's signs, too. -/
namespace G
open PySem PySem.Spec PyProof.Rows L2
theorem char_lt (d : Char) : d.toNat < 1114112 := by
  have h := d.valid
  have z : d.toNat = d.val.toNat := rfl
  rw [z]
  rcases h with h | ⟨_, h⟩
  · exact Nat.lt_trans h (by decide)
  · exact h
theorem reprChar_ok {q c x : Nat} (hq : q < 1114112) (hc : c < 1114112) (h : x ∈ PySem.Builtin.Str.reprChar q c) : x < 1114112 := by
  have hex : ∀ w : Nat, x ∈ List.replicate (w - ((Nat.toDigits 16 c).map Char.toNat).length) 48 ++ (Nat.toDigits 16 c).map Char.toNat → x < 1114112 := by
    intro w hw
    rcases List.mem_append.mp hw with hw | hw
    · rw [(List.mem_replicate.mp hw).2]
      decide
    · obtain ⟨d, _, rfl⟩ := List.mem_map.mp hw
      exact char_lt d
  unfold PySem.Builtin.Str.reprChar at h
  simp only [] at h
  have two : ∀ a b : Nat, a < 1114112 → b < 1114112 → x ∈ [a, b] → x < 1114112 := by
    intro a b ha hb hm
    simp only [List.mem_cons, List.not_mem_nil, or_false] at hm
    rcases hm with rfl | rfl <;> assumption
  split at h
  · exact two _ _ (by decide) hc h
  split at h
  · exact two _ _ (by decide) (by decide) h
  split at h
  · exact two _ _ (by decide) (by decide) h
  split at h
  · exact two _ _ (by decide) (by decide) h
  split at h
  · rw [List.mem_singleton.mp h]
    exact hc
  split at h
  · rcases List.mem_append.mp h with h | h
    · exact two _ _ (by decide) (by decide) h
    · exact hex _ h
  split at h
  · rcases List.mem_append.mp h with h | h
    · exact two _ _ (by decide) (by decide) h
    · exact hex _ h
  · rcases List.mem_append.mp h with h | h
    · exact two _ _ (by decide) (by decide) h
    · exact hex _ h
theorem reprQuote_lt (x : Str) : reprQuote x < 1114112 := by
  unfold reprQuote
  split <;> decide
theorem reprText_ok {x : Str} (h : OkS x) : OkS (reprText x) := by
  have key : ∀ (l : List Nat) (acc : Array Nat), (∀ c ∈ l, c < 1114112) → (∀ c ∈ acc.toList, c < 1114112) →
      ∀ c ∈ (l.foldl (fun out c => out ++ (PySem.Builtin.Str.reprChar (reprQuote x) c).toArray) acc).toList, c < 1114112 := by
    intro l
    induction l with
    | nil => intro acc _ ha; exact ha
    | cons c r ih =>
      intro acc hl ha
      refine ih _ (fun d hd => hl d (List.mem_cons_of_mem _ hd)) fun d hd => ?_
      rw [Array.toList_append] at hd
      rcases List.mem_append.mp hd with hd | hd
      · exact ha d hd
      · exact reprChar_ok (reprQuote_lt x) (hl c (List.mem_cons_self ..)) (by simpa using hd)
  intro c hc
  unfold reprText at hc
  dsimp only at hc
  rw [Array.toList_push, ← Array.foldl_toList] at hc
  rcases List.mem_append.mp hc with hc | hc
  · exact key x.cps.toList #[reprQuote x] h (fun d hd => by
      have e : d = reprQuote x := by simpa using hd
      rw [e]
      exact reprQuote_lt x) c hc
  · rw [List.mem_singleton.mp hc]
    exact reprQuote_lt x
theorem textFrom_ok : ∀ (ts : List Str) (k : Nat) (acc : Str), OkS acc → (∀ t ∈ ts, OkS t) → OkS (textFrom k acc ts)
  | [], k, acc, h, _ => h
  | t :: r, k, acc, h, hr => textFrom_ok r (k + 1) _ ((h.app (OkS.of _)).app (hr t (List.mem_cons_self ..))) fun u hu => hr u (List.mem_cons_of_mem _ hu)
theorem join_ok : ∀ (ts : List Str), (∀ t ∈ ts, OkS t) → OkS (Str.join ", " ts)
  | [], _ => OkS.of ""
  | [x], h => h x (List.mem_cons_self ..)
  | x :: y :: r, h => ((h x (List.mem_cons_self ..)).app (OkS.of ", ")).app (join_ok (y :: r) fun u hu => h u (List.mem_cons_of_mem _ hu))
mutual
theorem shown_ok : ∀ d : PyData, OkD d → OkS d.shown
  | .none, _ => by
    simp only [PyData.shown]
    exact OkS.of _
  | .bool b, _ => by
    simp only [PyData.shown]
    cases b <;> exact OkS.of _
  | .int i, _ => by
    simp only [PyData.shown]
    exact OkS.of _
  | .str x, h => by
    simp only [PyData.shown]
    exact reprText_ok (by simpa only [OkD] using h)
  | .list xs, h => by
    simp only [PyData.shown]
    exact (textFrom_ok _ _ _ (OkS.of _) (shownAll_ok xs (by simpa only [OkD] using h))).app (OkS.of _)
  | .tuple xs, h => by
    simp only [PyData.shown]
    exact ((OkS.of _).app (join_ok _ (shownAll_ok xs (by simpa only [OkD] using h)))).app (OkS.of _)
  | .dict kvs, h => by
    simp only [PyData.shown]
    exact ((OkS.of _).app (join_ok _ (shownKv_ok kvs (by simpa only [OkD] using h)))).app (OkS.of _)
theorem shownAll_ok : ∀ ds : List PyData, OkDs ds → ∀ t ∈ PyData.shownAll ds, OkS t
  | [], _, t, h => by simp [PyData.shownAll] at h
  | x :: xs, h, t, ht => by
    simp only [OkDs] at h
    simp only [PyData.shownAll, List.mem_cons] at ht
    rcases ht with rfl | ht
    · exact shown_ok x h.1
    · exact shownAll_ok xs h.2 t ht
theorem shownKv_ok : ∀ ds : List (PyData × PyData), OkKv ds → ∀ t ∈ PyData.shownKv ds, OkS t
  | [], _, t, h => by simp [PyData.shownKv] at h
  | (k, v) :: r, h, t, ht => by
    simp only [OkKv] at h
    simp only [PyData.shownKv, List.mem_cons] at ht
    rcases ht with rfl | ht
    · exact ((shown_ok k h.1).app (OkS.of _)).app (shown_ok v h.2.1)
    · exact shownKv_ok r h.2.2 t ht
end
theorem OkS.ok {x : Str} (h : OkS x) : PyData.strOk x = true := by
  unfold PyData.strOk
  rw [← Array.all_toList, List.all_eq_true]
  intro c hc
  exact decide_eq_true (h c hc)
end G

set_option Elab.async false
set_option linter.all false
set_option maxRecDepth 100000
set_option maxHeartbeats 4000000
/-! Errors as values: made, their fields read, asked by isinstance. -/
namespace G
open PySem PySem.Spec PyProof.Rows L2
/-- the error at a, of the class at C, with these fields -/
def Er (H : Hp) (a C : Addr) (fs : List (Str × V)) : Prop := (H a = some (exo a C none) ∧ fs = []) ∨ ∃ dx, H a = some (exo a C (some dx)) ∧ H dx = some (exd dx fs)
theorem Er.same {H H' : Hp} {a C : Addr} {fs : List (Str × V)} (e : Er H a C fs) (s : Same H H') : Er H' a C fs := by
  rcases e with ⟨h, f⟩ | ⟨dx, h, f⟩
  · exact .inl ⟨s _ _ h, f⟩
  · exact .inr ⟨dx, s _ _ h, s _ _ f⟩
/-- what a class of errors must say, by one test -/
def ecB (K : PySem.W.Frag) (C : Addr) : Bool :=
  PySem.W.findIn K (.ref C) "__setattr__" == some (some (.builtin "object.__setattr__")) && PySem.W.hasDictIn K C &&
  PySem.W.findIn K (.ref C) "__getattribute__" == some (some (.builtin "BaseException.__getattribute__")) && PySem.W.findIn K (.ref C) "__getattr__" == some none &&
  PySem.W.subIn K (.ref C) (.type "BaseException") == some true && PySem.W.findIn K (.ref C) "__class__" == some (some (.builtin "object.__class__")) &&
  PySem.W.mroIn K C (.type "object") == some true && PySem.W.keepIn K (.ref C) &&
  PySem.W.specialIn K (.builtin "object.__class__") "__get__" == some (some (.builtin "getset_descriptor.__get__")) && PySem.W.takesIn K (.builtin "object.__class__") == some true
structure EC (K : PySem.W.Frag) (C : Addr) : Prop where
  sa : PySem.W.findIn K (.ref C) "__setattr__" = some (some (.builtin "object.__setattr__"))
  hd : PySem.W.hasDictIn K C = true
  ga : PySem.W.findIn K (.ref C) "__getattribute__" = some (some (.builtin "BaseException.__getattribute__"))
  gt : PySem.W.findIn K (.ref C) "__getattr__" = some none
  sb : PySem.W.subIn K (.ref C) (.type "BaseException") = some true
  ca : PySem.W.findIn K (.ref C) "__class__" = some (some (.builtin "object.__class__"))
  mo : PySem.W.mroIn K C (.type "object") = some true
  kp : PySem.W.keepIn K (.ref C) = true
  cg : PySem.W.specialIn K (.builtin "object.__class__") "__get__" = some (some (.builtin "getset_descriptor.__get__"))
  ct : PySem.W.takesIn K (.builtin "object.__class__") = some true
theorem EC.of {K : PySem.W.Frag} {C : Addr} (h : ecB K C = true) : EC K C := by
  unfold ecB at h
  simp only [Bool.and_eq_true, beq_iff_eq] at h
  obtain ⟨⟨⟨⟨⟨⟨⟨⟨⟨a, b⟩, c⟩, d⟩, e⟩, f⟩, g⟩, i⟩, j⟩, k⟩ := h
  exact ⟨a, b, c, d, e, f, g, i, j, k⟩
theorem EC.cl {K : PySem.W.Frag} {C : Addr} (h : EC K C) : (PySem.W.clsIn K C).isSome = true := by
  obtain ⟨cd, hc, _⟩ := PySem.W.any_some h.hd
  rw [hc]
  rfl
/-- a built-in base: its facts for making, and for a field's store -/
structure BaseF (B newId initId : String) (bm : List Value) : Prop where
  ba : ExcBaseFacts B newId initId bm
  st : StoreFacts B bm "object.__setattr__" "object"
theorem baseVE : BaseF "ValueError" "ValueError.__new__" "ValueError.__init__" [.type "ValueError", .type "Exception", .type "BaseException", .type "object"] := ⟨F.excBase_ValueError, F.store_ValueError⟩
theorem baseLE : BaseF "LookupError" "LookupError.__new__" "LookupError.__init__" [.type "LookupError", .type "Exception", .type "BaseException", .type "object"] := ⟨F.excBase_LookupError, F.store_LookupError⟩
theorem baseEx : BaseF "Exception" "Exception.__new__" "Exception.__init__" [.type "Exception", .type "BaseException", .type "object"] := ⟨F.excBase_Exception, F.store_Exception⟩

/-! ### a field's store -/
section
variable {prog : Program} {w : World} {A : Around} {R : Result → Shared → Prop} {hp : Heap} {g : Array GenState} {d : Drawn} {t : Nat} {os : OsState}
/-- the first field of an error: its dict is made -/
theorem osa_first {B : String} {bm : List Value} {K : PySem.W.Frag} {name : Str} {tk : Tok} {v : Value} {x C t1 : Addr} (SF : StoreFacts B bm "object.__setattr__" "object") (X : K.In hp) (hx : hp.get? x = some (PySem.HandSPX.excO C t1))
    (ov : PySem.W.excOver K C bm = true) (ht : PySem.W.takerIn K C name = some none) (hh : PySem.W.hasDictIn K C = true)
    (hq : ∀ h' tk' dx, (∀ b o, b ≠ x → hp.get? b = some o → h'.get? b = some o) → hp.objs.size ≤ dx → dx ≠ x → h'.get? x = some { PySem.HandSPX.excO C t1 with dict := some dx } →
      h'.Ns1 dx (fun y => if y = name then some v else none) → R (.ok (.ret .none)) ⟨h', g, d, tk', os⟩) :
    codeAny (model prog w) A (.call (.builtin "object.__setattr__") ⟨[.ref x, .str name tk, v], []⟩) R ⟨hp, g, d, t, os⟩ := by
  have ne : x ≠ hp.objs.size := Nat.ne_of_lt (Heap.lt_size hx)
  refine PySem.W.osa_openX (od := none) (s := ⟨hp, g, d, t, os⟩) SF X ⟨hx, rfl, rfl, trivial⟩ ov ht fun b => ?_
  obtain ⟨cd, hc, hd'⟩ := PySem.W.any_some hh
  have L := PySem.W.looks_clsIn (M := model prog w) X hc
  refine wpAny_bind (wpAny_pure (wpAny_bind (PySem.W.instanceDict_exc (s := ⟨hp, g, d, t, os⟩) hx L hd' ?_)))
  refine PySem.HandSPX.store_in_new ?_ fun h' tk' hn hs => ?_
  · exact ⟨_, #[], _, (Heap.get?_update_ne _ _ _ _ ne.symm).trans (Heap.get?_push_at rfl rfl), rfl, fun e he => absurd he (by simp), fun _ => rfl⟩
  · have hx1 : (hp.push (PySem.W.dictOf [] 0)).get? x = some (PySem.HandSPX.excO C t1) := Heap.get?_push_of_some _ hx
    refine hq h' tk' hp.objs.size (fun b o hb ho => ?_) (Nat.le_refl _) ne.symm ?_ hn
    · refine (hs.2 b (Nat.ne_of_lt (Heap.lt_size ho))).trans ?_
      exact (Heap.get?_update_ne _ _ _ _ hb).trans (Heap.get?_push_of_some _ ho)
    · exact (hs.2 x ne).trans (Heap.get?_update_self _ hx1 rfl)
end
/-- at the class C a field may be stored on an error without a dict -/
structure ES (K : PySem.W.Frag) (C : Addr) (f : Str) : Prop where
  b : ∃ B newId initId bm, BaseF B newId initId bm ∧ PySem.W.excOver K C bm = true
  c : EC K C
  t : PySem.W.takerIn K C f = some none
section
variable {X : Cx} {pins : List (Addr × Obj)} {σ : L2.St} {H : Hp} {s : Shared} {a C : Addr} {f : Str} {y : V} {u : Value} {Q : Unit → Shared → Prop} {E : Value → Shared → Prop} {A : Around}
theorem os_first (T : ES X.K C f) (I : Inv X pins σ H s) (e : H a = some (exo a C none)) (ry : RelV y u)
    (h : ∀ dx s', H dx = none → dx ≠ a → Inv X pins σ (upd (upd H dx (exd dx [(f, y)])) a (exo a C (some dx))) s' → Q () s') : wpAny (model X.prog X.w) A (setAttr (.ref a) f u) Q E s := by
  obtain ⟨B, _, _, bm, BF, ov⟩ := T.b
  obtain ⟨t1, ho⟩ := exo_at I.hok e
  obtain ⟨hp, g, d, t, os⟩ := s
  refine PySem.W.set_plain I.kIn (ox := PySem.HandSPX.excO C t1) (od := none) ⟨ho, rfl, rfl, trivial⟩ T.c.sa ?_
  refine osa_first BF.st I.kIn ho ov T.t T.c.hd fun h' tk' dx k dn dne hx hn => ?_
  have nH : H dx = none := I.hok.fresh dn
  have old : ∀ {b : Addr} {o : Obj}, hp.get? b = some o → b ≠ dx := fun q z => Nat.lt_irrefl _ (Nat.lt_of_lt_of_le (z ▸ Heap.lt_size q) dn)
  have una : ∀ {b : Addr}, H b = none → b ≠ a := fun n z => by rw [z, e] at n; cases n
  have same : ∀ {b : Addr}, b ≠ a → b ≠ dx → upd (upd H dx (exd dx [(f, y)])) a (exo a C (some dx)) b = H b := fun h1 h2 => by rw [upd_ne h1, upd_ne h2]
  have U : Un X.fs [] H (upd (upd H dx (exd dx [(f, y)])) a (exo a C (some dx))) hp h' :=
    { keep := fun b o q n _ _ => k b o (una n) q
      slot := fun b o q n _ _ => ⟨_, k b o (una n) q⟩
      free := fun b o q n _ => (same (una n) (old q)).trans n
      there := fun b o q _ => if hb : b = a then ⟨_, hb ▸ hx⟩ else ⟨o, k b o hb q⟩
      tups := fun b xs q => (same (at_ne e q exo_tup) (ne_of_none q nH)).trans q
      frzs := fun b o v q => (same (at_ne e q exo_frz) (ne_of_none q nH)).trans q
      tbls := fun b ps q => ⟨#[], by rw [same (at_ne e q exo_tbl) (ne_of_none q nH), q]; simp⟩ }
  refine h dx _ nH dne (I.un (t' := tk') U fun b o q => ?_)
  by_cases hb : b = a
  · subst hb
    rw [upd_same] at q
    cases q
    exact exo_ok hx
  by_cases hd : b = dx
  · subst hd
    rw [upd_ne hb, upd_same] at q
    cases q
    exact exd_ok hn (relO_put (fs := []) ry fun _ => True.intro)
  rw [same hb hd] at q
  refine (I.hok b o q).stay (fun c v hc z => k c v ?_ z) (fun c hc => (same (at_ne e hc exo_own) (ne_of_none hc nH)).trans hc) fun c xs hc => (same (at_ne e hc exo_tup) (ne_of_none hc nH)).trans hc
  rcases hc with rfl | hc
  · exact hb
  · exact at_ne e hc exo_own
end
/-- o.f = e, o an error without fields -/
def tOs1 (K : PySem.W.Frag) (f : Str) (to te : TE) : TS := fun D σ H => te σ H fun y H1 => to σ H1 fun x H2 => ∃ a C : Addr, x = .ref a ∧ ES K C f ∧ H2 a = some (exo a C none) ∧ ∀ dx, H2 dx = none → dx ≠ a → D.nx σ (upd (upd H2 dx (exd dx [(f, y)])) a (exo a C (some dx)))
section
variable {X : Cx} {o e : Expr} {es : List Expr} {to te : TE} {ta : TA} {f : Str} {p p' pos : Pos}
theorem ps_os1 (ho : PE X o to) (he : PE X e te) (hs : swapsWith e (some (.Attribute o f p')) pos.line X.env = pure false := by rfl) : PS X (.Assign [.Attribute o f p'] e pos) (tOs1 X.K f to te) := by
  refine ⟨fun pins s σ H D I h => plainObj_wpAny_Assign_Attribute (thn (he.run pins s σ H _ I h) fun v s1 ⟨y, H1, I1, r1, q1⟩ => thn (ho.run pins s1 σ H1 _ I1 q1) fun u s2 ⟨x, H2, I2, r2, a, C, ex, T, ea, q⟩ => ?_) hs⟩
  subst ex
  obtain rfl : u = Value.ref a := r2
  exact os_first T I2 ea r1 fun dx s' n ne J => ⟨σ, _, J, q dx n ne⟩
/-! ### C(e, ..) -/
/-- the class is one with an own __init__ at fI -/
structure EM (K : PySem.W.Frag) (C fI : Addr) : Prop where
  b : ∃ B newId initId bm, BaseF B newId initId bm ∧ PySem.W.excInitIn K C bm newId = true
  kp : PySem.W.keepIn K (.ref C) = true
  i : PySem.W.findIn K (.ref C) "__init__" = some (some (.ref fI))
  t : PySem.W.typeIn K (.ref fI) = some (.type "function")
def tMkE (C : Addr) (sp : Sp) (ta : TA) : TE := fun σ H Q => ta σ H fun vs H1 => vs.length ≤ 1000 ∧ ∀ a, H1 a = none → sp (.ref a :: vs) (upd H1 a (exo a C none)) (fun v H2 => v = .non ∧ Q (.ref a) H2) (fun _ _ _ => False)
theorem pe_mkE {CX : CXT} {x : Str} {C fI : Addr} {k : Nat} {fd : FuncData} {ps : List Str} {sp : Sp} (M : EM X.K C fI) (F1 : FnOk X.prog X.w X.K X.mg X.base CX k fI fd ps sp) (hr : Room (k + 1) X.A) (hb : Binds X.K fd ps []) (hx : Passes CX X (fun _ _ _ => False))
    (hg : Gl X x) (hm : X.mg x = some (.ref C)) (ha : PA X (e :: es) ta)
    (hdb : (x == ("__debug__" : Str)) = false := by decide) (he : starEach (e :: es) X.env = (false, eval e X.env) :: starEach es X.env := by rfl) (hpl : (backTo pos (starEach es X.env)).any (·.1) = false := by rfl) :
    PE X (.Call (.Name x p) (e :: es) [] pos) (tMkE C sp ta) := by
  refine ⟨fun pins s σ H Q I h => ?_⟩
  obtain ⟨B, newId, initId, bm, BF, q⟩ := M.b
  refine wpAny_Call_Name_kw (ld_glob I hg hm ?_ hdb)
  refine PySem.W.callWith_K (h₀ := X.base) I.ok.mod.kin M.kp (thn (ha.run pos pins s σ H _ I h) fun us s1 ⟨vs, H1, I1, r1, hz, q1⟩ => ⟨I1.kIn, ?_⟩) he hpl
  obtain ⟨nm, N, qn, bs, bm', hdct, sn, sub, ab, col, dd, k0, k1, k2, k3, k5, hC, hT⟩ := PySem.W.excInit_of I1.kIn q
  obtain ⟨hp, g, dr, tk, os⟩ := s1
  have hsz : hp.objs.size ≤ hp.objs.size + 1 := Nat.le_succ _
  have hq := q1 (hp.objs.size + 1) (I1.hok.fresh hsz)
  have I2 : Inv X pins σ (upd H1 (hp.objs.size + 1) (exo (hp.objs.size + 1) C none)) ⟨(hp.push (PySem.W.kdv_tup us)).push (PySem.HandSPX.excO C hp.objs.size), g, dr, tk, os⟩ :=
    I1.laid (t' := tk) (a := hp.objs.size + 1) (fun b o z => Heap.get?_push_of_some _ (Heap.get?_push_of_some _ z)) hsz (exo_ok (by heap_get))
  have r2 : Vals (V.ref (hp.objs.size + 1) :: vs) (Value.ref (hp.objs.size + 1) :: us) := .cons rfl r1
  have hl : (Value.ref (hp.objs.size + 1) :: us).length = ps.length := r2.length.symm.trans (F1.len _ _ _ _ hq)
  have hus : us.length ≤ sizeLine := by rw [← r1.length]; exact line1000 hz
  have hbb := hb _ (Value.ref (hp.objs.size + 1) :: us) I2.kIn (by rw [List.append_nil]; exact hl)
  rw [List.append_nil] at hbb
  show wpAny _ _ (call (.ref C) us) _ _ _
  refine wpAny_call (PySem.HandSPX.call_own BF.ba hT hC (PySem.W.looks_findIn I1.kIn M.i) (fun self => PySem.W.bind_fn I1.kIn self M.t) hus
    (codeAny_mono (F1.run _ X.stack _ _ ⟨Value.ref (hp.objs.size + 1) :: us, []⟩ (Value.ref (hp.objs.size + 1) :: us) _ _ (fun _ _ _ => False) (hr.make C us []) (I2.env0.make C us []) hbb r2 hq) fun r s' hq' => ?_))
  match r, hq' with
  | .error er, hq' => exact hx pins σ _ _ er s' I2 hq'
  | .ok (.ret u), hq' =>
    obtain ⟨v, H', I3, rv, ev, q3⟩ := I2.after hq'
    subst ev
    exact ⟨rv, V.ref (hp.objs.size + 1), H', I3, rfl, q3⟩
  | .ok .next, hq' => exact False.elim hq'
  | .ok .brk, hq' => exact False.elim hq'
  | .ok .cont, hq' => exact False.elim hq'
/-- C(), a class without an own __init__ -/
theorem pe_mkE0 {x : Str} {C : Addr} {B newId initId : String} {bm : List Value} (BF : BaseF B newId initId bm) (q : PySem.W.excIn X.K C bm newId = true) (kC : PySem.W.keepIn X.K (.ref C) = true) (hg : Gl X x) (hm : X.mg x = some (.ref C)) (hdb : (x == ("__debug__" : Str)) = false := by decide) :
    PE X (.Call (.Name x p) [] [] pos) (fun _ H Q => ∀ a, H a = none → Q (.ref a) (upd H a (exo a C none))) := by
  refine ⟨fun pins s σ H Q I h => wpAny_Call_Name_kw (ld_glob I hg hm ?_ hdb)⟩
  refine PySem.W.callWith_K0 I.kIn kC ?_
  obtain ⟨bm', N, nm, qn, bs, hdct, sn, sub, ab, col, dd, k0, k1, k2, k3, k5, mN, hC, hN, hni, T⟩ := exc_obj I.kIn q
  obtain ⟨hp, g, dr, tk, os⟩ := s
  refine wpAny_call_exc_subT BF.ba T hC hN hni (fun h' a hm => ?_) (Nat.zero_le _)
  obtain ⟨t1, ht, _, _⟩ := hm.there
  have hn : H a = none := I.hok.gone hm.new
  exact ⟨.ref a, upd H a (exo a C none), I.laidN hm.keeps hm.new hn (exo_ok ht), rfl, h a hn⟩
/-! ### a field of an error -/
def tErF (K : PySem.W.Frag) (f : Str) (to : TE) : TE := fun σ H Q => to σ H fun x H1 => ∃ (a C : Addr) (fs : List (Str × V)) (v : V), x = .ref a ∧ Er H1 a C fs ∧ EC K C ∧ PySem.W.findIn K (.ref C) f = some none ∧ fs.lookup f = some v ∧ Q v H1
theorem pe_erF (ho : PE X o to) (hb : attributeBase o f X.env (eval o X.env) = eval o X.env := by rfl) : PE X (.Attribute o f pos) (tErF X.K f to) := by
  refine ⟨fun pins s σ H Q I h => attr_of hb (thn (ho.run pins s σ H _ I h) fun u s1 ⟨x, H1, I1, rx, a, C, fs, v, ex, er, c, hno, hl, q⟩ => ?_)⟩
  subst ex
  obtain rfl : u = Value.ref a := rx
  rcases er with ⟨_, z⟩ | ⟨dx, ea, ed⟩
  · subst z
    cases hl
  obtain ⟨t1, ho1⟩ := exo_at I1.hok ea
  obtain ⟨mA, hns, rel⟩ := exd_at I1.hok ed
  obtain ⟨od, hod, hl2⟩ := lookIn_ns hns
  obtain ⟨u, hu, ru⟩ := RelO.some_of (v := v) (o := mA f) (by rw [← hl]; exact rel f)
  exact PySem.HandSPX.exc_get I1.kIn (od := some od) ⟨ho1, rfl, rfl, hod⟩ c.ga c.gt c.sb (PySem.W.findObj_own c.hd hno rfl (by rw [hl2, hu])) (handed_of ru) ⟨v, H1, I1.tok _, ru, q⟩
/-! ### isinstance of an error -/
def rIsEr (K : PySem.W.Frag) : List V → Hp → VK → Prop := fun vs H Q => ∃ (a C : Addr) (fs : List (Str × V)) (c : V) (cv : Value) (b : Bool), vs = [.ref a, c] ∧ Er H a C fs ∧ EC K C ∧ ClsV c cv ∧ PySem.W.kitOne K (.ref C) cv = some b ∧ Q (.bl b) H
theorem call_isEr : CallR X (.builtin "isinstance") (rIsEr X.K) := by
  intro pins s σ H vs us Q I r h
  obtain ⟨a, C, fs, c, cv, b, rfl, er, ec, hc, e, q⟩ := h
  obtain ⟨u1, u2, rfl, r1, r2⟩ := vals2 r
  obtain rfl : u1 = Value.ref a := r1
  have e2 := hc.eq r2
  subst e2
  have key : ∀ (ox : Obj) (od : Option Obj), PySem.W.InstAt s.heap a ox C od → wpAny (model X.prog X.w) X.A (call (.builtin "isinstance") [.ref a, u2]) (EP X pins σ Q) X.xe s := fun ox od J =>
    PySem.W.kia_one (PySem.W.kitx_exc (ox := ox) (od := od) ec.cl ec.ga ec.gt ec.sb ec.ca ec.cg ec.ct ec.mo) I.kIn J e (fun z => nomatch z) fun tk => ⟨.bl b, H, I.tok tk, rfl, q⟩
  rcases er with ⟨ea, _⟩ | ⟨dx, ea, ed⟩
  · obtain ⟨t1, ho1⟩ := exo_at I.hok ea
    exact key _ none ⟨ho1, rfl, rfl, trivial⟩
  · obtain ⟨t1, ho1⟩ := exo_at I.hok ea
    obtain ⟨mA, hns, rel⟩ := exd_at I.hok ed
    obtain ⟨od, hod, _⟩ := lookIn_ns hns
    exact key _ (some od) ⟨ho1, rfl, rfl, hod⟩
end
end G

set_option Elab.async false
set_option linter.all false
set_option maxRecDepth 100000
set_option maxHeartbeats 4000000
/-! An own error's __init__ that stores one field. -/
namespace G
open PySem PySem.Spec PyProof.Rows L2
/-- self.f = f -/
def spI1 (K : PySem.W.Frag) (f : Str) : Sp := fun vs H Q _ => ∃ (a C : Addr) (v : V), vs = [.ref a, v] ∧ ES K C f ∧ H a = some (exo a C none) ∧ ∀ dx, H dx = none → dx ≠ a → Q .non (upd (upd H dx (exd dx [(f, v)])) a (exo a C (some dx)))
end G

set_option Elab.async false
set_option linter.all false
set_option maxRecDepth 100000
set_option maxHeartbeats 4000000
/-! Further rules: a base's method called by its class; a local that holds one of several defs, called with a star; an own error over any base raised, its field read where it is caught. -/
namespace G
open PySem PySem.Spec PyProof.Rows L2 StX ClX
section
variable {X : Cx} {CX : CXT} {k i : Nat} {f C : Addr} {mc : Value} {fd : FuncData} {ps : List Str} {sp : Sp} {E : XK} {x m n : Str} {o e : Expr} {es : List Expr} {te ta : TE} {t : TA} {p apos pos : Pos}
/-- C.m(e, ..), m a plain def of the class C -/
def tCfn (C : Addr) (sp : Sp) (E : XK) (ta : TE) (t : TA) : TE := fun σ H Q => ta σ H fun x H1 => x = .ref C ∧ t σ H1 fun vs H2 => sp vs H2 Q E
theorem pe_cfn {pl : Sem Bool} (he : PE X o ta) (r : CRead X.K C mc) (c : PySem.W.findCls X.K (.ref C) mc m = some (.val (.ref f))) (kf : PySem.W.keepIn X.K (.ref f) = true) (F : FnOk X.prog X.w X.K X.mg X.base CX k f fd ps sp) (hr : Room k X.A) (hb : Binds X.K fd ps []) (hx : Passes CX X E) (ha : PA X (e :: es) t)
    (hst : starEach (e :: es) X.env = (false, eval e X.env) :: starEach es X.env := by rfl) (hpl : (backTo pos (starEach es X.env)).any (·.1) = false := by rfl)
    (ht : eval (.Call (.Attribute o m apos) (e :: es) [] pos) X.env = (do
      let ov ← eval o X.env
      standAt apos.atName
      let (f, first) ← holding [ov] (getMethod ov m pl)
      callWith pos f first (backTo pos (starEach (e :: es) X.env)) (backToKw pos (keywordEach [] X.env))) := by rfl) :
    PE X (.Call (.Attribute o m apos) (e :: es) [] pos) (tCfn C sp E ta t) := by
  refine ⟨fun pins s σ H Q I h => ?_⟩
  refine PySem.W.methodCall_KW (pl := pl) (thn (he.run pins s σ H _ I h) fun u s1 ⟨y, H1, I1, ry, ey, q⟩ => ?_) ht
  subst ey
  obtain rfl : u = Value.ref C := ry
  refine PySem.W.method_cls I1.kIn r.ga (getcval_ok (v := .ref f) I1 r ⟨c, rfl⟩ fun s2 I2 => ?_)
  refine PySem.W.callWith_K (first := []) (h₀ := X.base) I.ok.mod.kin kf (thn (ha.run pos pins s2 σ H1 _ I2 q) fun us s3 ⟨vs, H2, I3, rv, q2⟩ => ⟨I3.kIn, ?_⟩) hst hpl
  have e0 : vs ++ [] = vs := List.append_nil vs
  exact run_fn F hr hb .nil hx I3 rv (by rw [e0]; exact q2)
/-- one of several defs that a local may hold -/
structure HeldX (P : Program) (w : World) (K : PySem.W.Frag) (mg : Str → Option Value) (base : Heap) (CX : CXT) (k : Nat) (f : Addr) (sp : Sp) : Prop where
  ex : ∃ (fd : FuncData) (ps : List Str), FnOk P w K mg base CX k f fd ps sp ∧ PySem.W.keepIn K (.ref f) = true ∧ Binds K fd ps []
def tCallV (i : Nat) (S : Addr → Sp → Prop) (E : XK) (t : TA) : TE := fun σ H Q => ∃ f sp, σ[i]? = some (some (.ref f)) ∧ S f sp ∧ t σ H fun vs H1 => sp vs H1 Q E
/-- x(e, .., *y), x a local -/
theorem pe_callV {S : Addr → Sp → Prop} (A : ∀ f sp, S f sp → HeldX X.prog X.w X.K X.mg X.base CX k f sp) (hr : Room k X.A) (hN : X.N[i]? = some x) (hv : Vis X.env.scope x) (hx : Passes CX X E) (ha : PA X (e :: es) t)
    (hdb : (x == ("__debug__" : Str)) = false := by decide) (hcd : (x == ("__classdict__" : Str)) = false := by decide)
    (he : starEach (e :: es) X.env = (false, eval e X.env) :: starEach es X.env := by rfl) (hst : (backTo pos (starEach es X.env)).any (·.1) = true := by rfl) : PE X (.Call (.Name x p) (e :: es) [] pos) (tCallV i S E t) := by
  refine ⟨fun pins s σ H Q I ⟨f, sp, hs, hS, ht⟩ => ?_⟩
  obtain ⟨fd, ps, F, hk, hb⟩ := (A f sp hS).ex
  refine wpAny_Call_Name_kw (thn ((pe_var (pos := p) hN hv hdb hcd).run pins s σ H (fun v H1 => v = .ref f ∧ H1 = H) I ⟨.ref f, hs, rfl, rfl⟩) fun u s1 ⟨v, H1, I1, r1, q1⟩ => ?_)
  obtain ⟨rfl, rfl⟩ := q1
  cases r1
  refine PySem.W.callWith_S2 (h₀ := X.base) I.ok.mod.kin hk (thn (ha.run pos pins s1 σ _ _ I1 ht) fun us s2 ⟨vs, H2, I2, r, q⟩ => ⟨I2.kIn, ?_⟩) he hst
  have e0 : vs ++ [] = vs := List.append_nil vs
  exact run_fn F hr hb .nil hx I2 r (by rw [e0]; exact q)
/-! ### raise C(e), C's own __init__ keeping sp -/
def tPmk (C : Addr) (sp : Sp) (ta : TA) : L2.St → Hp → XK → Prop := fun σ H Q => ta σ H fun vs H1 => vs.length ≤ 1000 ∧ ∀ a, H1 a = none → sp (.ref a :: vs) (upd H1 a (exo a C none))
  (fun v H2 => v = .non ∧ ∃ (d : Addr) (fs : List (Str × V)), H2 a = some (exo a C (some d)) ∧ H2 d = some (exd d fs) ∧ H1 d = none ∧ Q (.ref C) (some d) (upd (del H2 a) d (.xd fs))) (fun _ _ _ => False)
theorem pmk_E {fI : Addr} (M : EM X.K C fI) (R : Raises X (.ref C)) (F1 : FnOk X.prog X.w X.K X.mg X.base CX k fI fd ps sp) (hr : Room (k + 1) X.A) (hb : Binds X.K fd ps []) (hx : Passes CX X (fun _ _ _ => False))
    (hg : Gl X x) (hm : X.mg x = some (.ref C)) (ha : PA X (e :: es) t)
    (hdb : (x == ("__debug__" : Str)) = false := by decide) (he : starEach (e :: es) X.env = (false, eval e X.env) :: starEach es X.env := by rfl) (hpl : (backTo pos (starEach es X.env)).any (·.1) = false := by rfl) :
    PMk X (.Call (.Name x p) (e :: es) [] pos) (tPmk C sp t) := by
  intro pins s σ H Q I h
  obtain ⟨B, newId, initId, bm, BF, q⟩ := M.b
  refine wpAny_Call_Name_kw (ld_glob I hg hm ?_ hdb)
  refine PySem.W.callWith_K (h₀ := X.base) I.ok.mod.kin M.kp (thn (ha.run pos pins s σ H _ I h) fun us s1 ⟨vs, H1, I1, r1, hz, q1⟩ => ⟨I1.kIn, ?_⟩) he hpl
  obtain ⟨nm, N, qn, bs, bm', hdct, sn, sub, ab, col, dd, k0, k1, k2, k3, k5, hC, hT⟩ := PySem.W.excInit_of I1.kIn q
  obtain ⟨hp, g, dr, tk, os⟩ := s1
  have hsz : hp.objs.size ≤ hp.objs.size + 1 := Nat.le_succ _
  have hq := q1 (hp.objs.size + 1) (I1.hok.fresh hsz)
  have old : ∀ b o, hp.get? b = some o → ((hp.push (PySem.W.kdv_tup us)).push (PySem.HandSPX.excO C hp.objs.size)).get? b = some o := fun b o z => Heap.get?_push_of_some _ (Heap.get?_push_of_some _ z)
  have I2 : Inv X pins σ (upd H1 (hp.objs.size + 1) (exo (hp.objs.size + 1) C none)) ⟨(hp.push (PySem.W.kdv_tup us)).push (PySem.HandSPX.excO C hp.objs.size), g, dr, tk, os⟩ :=
    I1.laid (t' := tk) (a := hp.objs.size + 1) old hsz (exo_ok (by heap_get))
  have r2 : Vals (V.ref (hp.objs.size + 1) :: vs) (Value.ref (hp.objs.size + 1) :: us) := .cons rfl r1
  have hl : (Value.ref (hp.objs.size + 1) :: us).length = ps.length := r2.length.symm.trans (F1.len _ _ _ _ hq)
  have hus : us.length ≤ sizeLine := by rw [← r1.length]; exact line1000 hz
  have hbb := hb _ (Value.ref (hp.objs.size + 1) :: us) I2.kIn (by rw [List.append_nil]; exact hl)
  rw [List.append_nil] at hbb
  show wpAny _ _ (call (.ref C) us) _ _ _
  refine wpAny_call (PySem.HandSPX.call_own BF.ba hT hC (PySem.W.looks_findIn I1.kIn M.i) (fun self => PySem.W.bind_fn I1.kIn self M.t) hus
    (codeAny_mono (F1.run _ X.stack _ _ ⟨Value.ref (hp.objs.size + 1) :: us, []⟩ (Value.ref (hp.objs.size + 1) :: us) _ _ (fun _ _ _ => False) (hr.make C us []) (I2.env0.make C us []) hbb r2 hq) fun r s' hq' => ?_))
  match r, hq' with
  | .error er, hq' => exact hx pins σ _ _ er s' I2 hq'
  | .ok (.ret u), hq' =>
    obtain ⟨v, H2, os2, bare2, un2, hok2, rv, ev, d, fs, ea, ed, hd1, q2⟩ := hq'
    subst ev
    obtain ⟨h2, g2, d2, t2, os'⟩ := s'
    exact ⟨rv, mk_end R I1 hsz old un2 hok2 os2 bare2 ea ed hd1 q2⟩
  | .ok .next, hq' => exact False.elim hq'
  | .ok .brk, hq' => exact False.elim hq'
  | .ok .cont, hq' => exact False.elim hq'
/-- the error that the suite holds (at a; its class cls, its dict d): a field -/
def tCapF (K : PySem.W.Frag) (a : Addr) (cls : Value) (d : Option Addr) (f : Str) (te : TE) : TE := fun σ H Q => te σ H fun x H1 => x = .ref a ∧ ∃ (C dd : Addr) (fs : List (Str × V)) (v : V), cls = .ref C ∧ EC K C ∧ PySem.W.findIn K (.ref C) f = some none ∧ d = some dd ∧ H1 dd = some (.xd fs) ∧ fs.lookup f = some v ∧ Q v H1
theorem pe_capF {a : Addr} {oe : Obj} {cls : Value} {d : Option Addr} {pn : List (Addr × Obj)} {e : Expr} {te : TE} {pos : Pos} {f : Str} (hz : Zc cls d oe) (hf : ∃ vs, oe.data = .fields vs) (he : PE (X.suite a ((a, oe) :: pn)) e te)
    (hb : attributeBase e f X.env (eval e X.env) = eval e X.env := by rfl) : PE (X.suite a ((a, oe) :: pn)) (.Attribute e f pos) (tCapF X.K a cls d f te) := by
  refine ⟨fun pins s σ H Q I h => attr_of hb (thn (he.run pins s σ H _ I h) fun u s1 ⟨y, H1, I1, ry, ey, C, dd, fs, v, ec, T, hno, ed, ea, hl, q⟩ => ?_)⟩
  subst ey
  obtain rfl : u = Value.ref a := ry
  subst ec ed
  obtain ⟨ha, _⟩ := I1.pin (a, oe) (List.mem_append_left _ List.mem_cons_self)
  obtain ⟨vs, hd⟩ := hf
  obtain ⟨mA, hns, hr⟩ := (show ObjOk X.prog X.w H1 s1.heap dd (.xd fs) from I1.hok dd _ ea)
  obtain ⟨od, ho, hl2⟩ := lookIn_ns hns
  obtain ⟨u, hu, ru⟩ := RelO.some_of (v := v) (o := mA f) (by rw [← hl]; exact hr f)
  have J : PySem.W.InstAt s1.heap a oe C (some od) := ⟨ha, hz.1, by unfold PySem.W.notCls; rw [hd] <;> rfl, by rw [hz.2]; exact ho⟩
  exact PySem.HandSPX.exc_get I1.kIn J T.ga T.gt T.sb (PySem.W.findObj_own T.hd hno rfl (by rw [hl2, hu])) (handed_of ru) ⟨v, H1, I1.tok _, ru, q⟩
end
end G

set_option Elab.async false
set_option linter.all false
set_option maxRecDepth 100000
set_option maxHeartbeats 4000000
/-! The head by facts read by a Hook: the end for FnOkG, defs and methods out of what the Hook says. -/
namespace G
open PySem PySem.Spec PyProof.Rows L2 StX ClX
theorem walk_ofGE {l : PySem.W.OpenLaw} {n k : Nat} {q : Program} {loose : List Str} {XP : (Str → Option Value) → Heap → Prop} {YP : World → Heap → Prop}
    {d : DefRec} {x : Str} (hn : l.most = some n) (hn2 : n ≤ sizeLine) (hdf : d.params.defaults = []) (hr : Room k callerA)
    (F : ∀ (w : World) (mg : Str → Option Value) (fa : Addr) (h : Heap), YP w h → h.Ns mainGlobals mg → mg d.name = some (.ref fa) →
      ∃ (K : PySem.W.Frag) (fd : FuncData), K.In h ∧ (∀ (s : Shared) (u : Value), BindsTo s fd ⟨[u], []⟩ [(x, u)]) ∧
        ∀ base : Heap, K.In base → base.Ns mainGlobals mg → FnOkG l.prog w K mg base k fa fd [x] (spLawN K n)) :
    PySem.W.WalkO q loose XP YP l.row.toRowW d [] (fun f vs => PySem.call f vs) := by
  refine Att.attach_call hn hdf fun w s₀ s₁ mg mb fa o pm cd doc a vs ns Gr Y ho hd hcd hmg hobj hints hlen hgens => ?_
  obtain ⟨K, fd, KX, hb, hF⟩ := F w mg fa _ Y Gr.T.g hmg
  have rv := vals_ints hints
  have hl : ns.length ≤ sizeLine := Nat.le_trans hlen hn2
  have goal := @call_at l.prog w K mg mb k n fa a fd x s₁ vs ns KX Gr.T.g Gr.T.b Gr.T.builtins Gr.T.nolimit hgens hobj hlen hr hF hb
  cases hk : K.lookup a with
  | some o1 =>
    have e := KX a o1 hk
    rw [hobj] at e
    cases e
    refine goal (fun _ => none) (fun _ => Or.inl rfl) (Or.inr ⟨_, vs.toArray, _, hk, rfl, rfl, rfl, ?_, by simpa using rv⟩) (fun b u z => nomatch z) (fun b z => absurd rfl z) fun z => absurd rfl z
    rw [List.size_toArray, hints.length]
    exact hl
  | none =>
    let frozen : HO := .frz { cls := .type "list", data := .seq vs.toArray } (.lst (ns.map V.int))
    have at_a : ∀ b, b = a → (fun b => if b = a then some frozen else none : Hp) b = some frozen := fun b hb => if_pos hb
    have off_a : ∀ b, b ≠ a → (fun b => if b = a then some frozen else none : Hp) b = none := fun b hb => if_neg hb
    refine goal (fun b => if b = a then some frozen else none) (fun b => ?_) (Or.inl (Or.inr ⟨_, at_a a rfl⟩)) (fun b u z => ?_) (fun b z => ?_) fun _ => hk
    · by_cases hb : b = a
      · exact Or.inr ⟨_, _, at_a b hb⟩
      · exact Or.inl (off_a b hb)
    · by_cases hb : b = a
      · rw [at_a b hb] at z
        cases z
        subst hb
        exact ⟨hobj, by rw [List.length_map]; exact hl, vs, _, rv, hobj⟩
      · rw [off_a b hb] at z
        cases z
    · by_cases hb : b = a
      · exact hb
      · exact absurd (off_a b hb) z
/-- a def without defaults, as the Hook tells it -/
theorem fun_ofD {K : PySem.W.Frag} {x qual : Str} {st : Stmt} {f : Addr} {fd : FuncData} (F : FunD K x qual (defArgs st) (defBody st) (defScope st) [] [] f fd) : Fun K x qual st f fd := by
  obtain ⟨oc, od, dV, kV, doc, pm, an, cdv, ct, osl, rfl, lk, hcd, hD, _⟩ := F.ex
  rcases hD with ⟨_, rfl⟩ | ⟨e, _⟩
  · exact ⟨⟨oc, od, kV, doc, pm, an, cdv, ct, osl, rfl, lk, hcd⟩, F.kp⟩
  · exact absurd rfl e
/-- a def of the module and how it is called -/
structure DfX (K : PySem.W.Frag) (mg : Str → Option Value) (x : Str) (st : Stmt) (ps : List Str) (f : Addr) (fd : FuncData) : Prop where
  F : Fun K x x st f fd
  b : Binds K fd ps []
  m : mg x = some (.ref f)
/-- a method -/
structure MdX (K : PySem.W.Frag) (C : Addr) (x q : Str) (st : Stmt) (ps : List Str) (f : Addr) (fd : FuncData) : Prop where
  F : Fun K x q st f fd
  b : Binds K fd ps []
  m : Meth K C x f
/-- how a def's arguments bind -/
def BindOk (x qual : Str) (st : Stmt) (ps : List Str) : Prop := ∀ (kV doc pm : Value) (an : Option Addr) (cdv ct : Value) (us : List Value), us.length = ps.length → bindArgs (PySem.W.fnOf x qual (defArgs st) (defBody st) (defScope st) .none kV doc pm an cdv ct) ⟨us, []⟩ = pure (ps.zip us)
abbrev dDef (x : Str) (st : Stmt) : He.DefD := ⟨(x, none), x, x, defArgs st, defBody st, defScope st, [], []⟩
abbrev dMet (C x q : Str) (st : Stmt) : He.DefD := ⟨(C, some x), x, q, defArgs st, defBody st, defScope st, [], []⟩
section
variable {K : PySem.W.Frag} {h : Heap} {mg : Str → Option Value} {fa : List He.Fa} {fn : List He.DefD}
theorem dfx (X : K.In h) (G : h.Ns mainGlobals mg) (c : He.SaysD fa fn K) {x : Str} {st : Stmt} {ps : List Str} (i j : Nat) (hb : BindOk x x st ps) (hd : fn[i]? = some (dDef x st)) (hf : fa[j]? = some (.glo x)) : ∃ fd, DfX K mg x st ps (He.ga K x) fd := by
  obtain ⟨fd, F⟩ := c.def_ i hd
  have F2 : Fun K x x st (He.ga K x) fd := fun_ofD F
  exact ⟨fd, F2, F2.binds hb, He.glo_ok X G (c.fact j hf)⟩
theorem mdx (c : He.SaysD fa fn K) {C x q : Str} {st : Stmt} {ps : List Str} (i j : Nat) (hb : BindOk x q st ps) (hd : fn[i]? = some (dMet C x q st)) (hf : fa[j]? = some (.meth C x)) : ∃ fd, MdX K (He.ga K C) x q st ps (He.ma K (He.ga K C) x) fd := by
  obtain ⟨fd, F⟩ := c.def_ i hd
  have F2 : Fun K x q st (He.ma K (He.ga K C) x) fd := fun_ofD F
  exact ⟨fd, F2, F2.binds hb, He.meth_ok (c.fact j hf)⟩
theorem inx (c : He.SaysD fa fn K) {C x q : Str} {st : Stmt} {ps : List Str} (i : Nat) (hb : BindOk x q st ps) (hd : fn[i]? = some (dMet C x q st)) : ∃ fd, Fun K x q st (He.ma K (He.ga K C) x) fd ∧ Binds K fd ps [] := by
  obtain ⟨fd, F⟩ := c.def_ i hd
  have F2 : Fun K x q st (He.ma K (He.ga K C) x) fd := fun_ofD F
  exact ⟨fd, F2, F2.binds hb⟩
end
/-- the module's dict of defs -/
theorem kdct_of {K : PySem.W.Frag} {w : World} {a : Addr} {es : Array DictEntry} {n : Nat} (D : KDict K w a es n) {kvs : List (Str × He.Dv)} (h : He.valsB K a kvs = true) {x f : Str} (hq : (x, He.Dv.glo f) ∈ kvs) : KDct K w a x (.ref (He.ga K f)) := by
  obtain ⟨u, e, r⟩ := He.valsB_ok h hq
  exact ⟨es, n, u, D.at_, D.lit, e, r⟩
/-- an empty tuple of the module -/
def noneB (K : PySem.W.Frag) (a : Addr) : Bool := match K.lookup a with
  | some ⟨.type c, _, .seq its _, _⟩ => decide (c = "tuple") && its.isEmpty
  | _ => false
theorem noneB_ok {K : PySem.W.Frag} {a : Addr} (h : noneB K a = true) (H : Hp) : SqT K H a [] := by
  unfold noneB at h
  cases q : K.lookup a with
  | none => rw [q] at h; cases h
  | some o =>
    obtain ⟨oc, od, dt, osl⟩ := o
    rw [q] at h
    cases oc with
    | type c =>
      cases dt with
      | seq its n =>
        obtain ⟨h1, h2⟩ := He.ba (show (decide (c = "tuple") && its.isEmpty) = true from h)
        have e : its = #[] := Array.isEmpty_iff.mp h2
        subst e
        exact .inr ⟨_, #[], n, q, congrArg Value.type (of_decide_eq_true h1), rfl, Nat.zero_le _, .nil⟩
      | _ => cases h
    | _ => cases dt <;> cases h
/-- the keyword default x of the def, if it is an object -/
def kwdAt (f : Str × Option Str) (x : Str) (K : PySem.W.Frag) : Addr := match K.lookup (He.fAd K f) with
  | some ⟨_, _, .func fd, _⟩ => (match fd.kwdefaults with
    | .ref D => (match PySem.W.nsIn K D x with
      | some (some (.ref a)) => a
      | _ => 0)
    | _ => 0)
  | _ => 0
/-! ### the Hook: the names' reach, the interpreter's statics, one more Bool -/
def asS (g : Addr → Option Obj) (n : Nat) : List Addr := He.asD g n ++ [PySem.cStatics]
structure SaysS (fa : List He.Fa) (fn : List He.DefD) (ts : List He.Tab) (ex : PySem.W.Frag → Bool) (w : World) (K : PySem.W.Frag) : Prop where
  t : He.SaysT fa fn ts w K
  more : ex K = true
abbrev AlS : Type := He.AlT × Bool
def obsS (n : Nat) (fa : List He.Fa) (fn : List He.DefD) (ts : List He.Tab) (ex : PySem.W.Frag → Bool) (g : Addr → Option Obj) : AlS := (He.obsT fa fn ts (He.frG g (asS g n)), ex (He.frG g (asS g n)))
def valS (fn : List He.DefD) (ts : List He.Tab) (w : World) : AlS := (He.valT fn ts w, true)
def hookS (n : Nat) (fa : List He.Fa) (fn : List He.DefD) (ts : List He.Tab) (ex : PySem.W.Frag → Bool) : PySem.W.Hook where
  α := AlS
  obs := fun s => obsS n fa fn ts ex s.heap.get?
  val := fun w => valS fn ts w
  says := fun w h => ∃ K : PySem.W.Frag, K.In h ∧ SaysS fa fn ts ex w K
  of := fun _ _ e => ⟨_, He.frG_in, ⟨congrArg (fun z : AlS => z.1) e, congrArg (fun z : AlS => z.2) e⟩⟩
  keeps := fun _ _ _ ⟨K, hK, c⟩ k => ⟨K, PySem.W.Frag.In.keeps hK k, c⟩
theorem obsS_eq {n : Nat} {fa : List He.Fa} {fn : List He.DefD} {ts : List He.Tab} {ex : PySem.W.Frag → Bool} {g : Addr → Option Obj} {s : Shared} (h : ∀ a, g a = s.heap.get? a) : obsS n fa fn ts ex g = (hookS n fa fn ts ex).obs s := by
  have e : g = s.heap.get? := funext h
  rw [e] <;> rfl
/-- an own error's class over a base with its own __init__ -/
def ciB (K : PySem.W.Frag) (C fI : Addr) (bm : List Value) (newId : String) (f : Str) : Bool := PySem.W.excInitIn K C bm newId && PySem.W.excOver K C bm && ecB K C && PySem.W.findIn K (.ref C) "__init__" == some (some (.ref fI)) &&
  PySem.W.typeIn K (.ref fI) == some (.type "function") && PySem.W.findIn K (.ref C) f == some none
theorem taker_of {K : PySem.W.Frag} {C : Addr} {f : Str} (h : PySem.W.findIn K (.ref C) f = some none) : PySem.W.takerIn K C f = some none := by
  unfold PySem.W.takerIn
  rw [h]
  rfl
theorem ci_of {K : PySem.W.Frag} {C fI : Addr} {bm : List Value} {B newId initId : String} {f : Str} (BF : BaseF B newId initId bm) (h : ciB K C fI bm newId f = true) : EM K C fI ∧ ES K C f ∧ PySem.W.findIn K (.ref C) f = some none := by
  unfold ciB at h
  simp only [Bool.and_eq_true, beq_iff_eq] at h
  obtain ⟨⟨⟨⟨⟨a, b⟩, c⟩, d⟩, e⟩, g⟩ := h
  exact ⟨⟨⟨B, newId, initId, bm, BF, a⟩, (EC.of c).kp, d, e⟩, ⟨⟨B, newId, initId, bm, BF, b⟩, EC.of c, taker_of g⟩, g⟩
def creadB (K : PySem.W.Frag) (C : Addr) (mc : Value) : Bool := PySem.W.readsIn K C mc && PySem.W.specialIn K (.ref C) "__getattribute__" == some (some (.builtin "type.__getattribute__"))
theorem cread_of {K : PySem.W.Frag} {C : Addr} {mc : Value} (h : creadB K C mc = true) : CRead K C mc := by
  unfold creadB at h
  simp only [Bool.and_eq_true, beq_iff_eq] at h
  exact ⟨h.1, h.2⟩
end G

set_option Elab.async false
set_option linter.all false
set_option maxRecDepth 100000
set_option maxHeartbeats 4000000
/-! The cells of a run: what they are on paper, and where they stand. -/
namespace G
open PySem PySem.Spec PyProof.Rows L2
theorem Same.up {H : Hp} {p : Addr} {o : HO} (np : H p = none) : Same H (upd H p o) := fun b u e => by
  rw [upd_ne (ne_of_none e np)]
  exact e
/-! ### rows of pairs, as a dict keeps them -/
section
variable {κ β : Type} [DecidableEq κ]
def look (l : List (κ × β)) (k : κ) : Option β := (l.find? fun p => decide (p.1 = k)).map (·.2)
def put (l : List (κ × β)) (k : κ) (b : β) : List (κ × β) := if (l.any fun p => decide (p.1 = k)) = true then l.map (fun p => if p.1 = k then (p.1, b) else p) else l ++ [(k, b)]
def drp (l : List (κ × β)) (k : κ) : List (κ × β) := l.filter fun p => decide (p.1 ≠ k)
theorem put_length (l : List (κ × β)) (k : κ) (b : β) : (put l k b).length ≤ l.length + 1 := by
  unfold put
  split
  · rw [List.length_map]; omega
  · rw [List.length_append]; exact Nat.le_refl _
theorem drp_length (l : List (κ × β)) (k : κ) : (drp l k).length ≤ l.length := List.length_filter_le _ _
end
/-- as a dict holds it -/
def dct {κ β : Type} (km : κ → Key) (vm : β → V) (l : List (κ × β)) : List (Key × V) := l.map fun p => (km p.1, vm p.2)
section
variable {κ β : Type} [DecidableEq κ] {km : κ → Key} {vm : β → V}
theorem dct_len (l : List (κ × β)) : (dct km vm l).length = l.length := List.length_map _
theorem valV_dct (inj : ∀ x y, km x = km y → x = y) (l : List (κ × β)) (k : κ) : valV (dct km vm l) (km k) = (look l k).map vm := by
  induction l with
  | nil => rfl
  | cons p r ih =>
    by_cases h : p.1 = k
    · rw [show dct km vm (p :: r) = (km p.1, vm p.2) :: dct km vm r from rfl, valV_pos (by rw [h])]
      simp [look, List.find?_cons, h]
    · rw [show dct km vm (p :: r) = (km p.1, vm p.2) :: dct km vm r from rfl, valV_neg (fun z => h (inj _ _ z)), ih]
      simp [look, List.find?_cons, h]
theorem any_dct (inj : ∀ x y, km x = km y → x = y) (l : List (κ × β)) (k : κ) : ((dct km vm l).any fun kv => decide (kv.1 = km k)) = l.any fun p => decide (p.1 = k) := by
  induction l with
  | nil => rfl
  | cons p r ih =>
    show (decide (km p.1 = km k) || (dct km vm r).any _) = (decide (p.1 = k) || r.any _)
    rw [ih, decide_eq_decide.mpr ⟨fun z => inj _ _ z, fun z => by rw [z]⟩]
theorem putK_dct (inj : ∀ x y, km x = km y → x = y) (l : List (κ × β)) (k : κ) (b : β) : putK (dct km vm l) (km k) (vm b) = dct km vm (put l k b) := by
  unfold putK put
  rw [any_dct inj]
  split
  · unfold dct
    rw [List.map_map, List.map_map]
    refine List.map_congr_left fun p _ => ?_
    by_cases h : p.1 = k
    · simp [h]
    · have h2 : ¬ km p.1 = km k := fun z => h (inj _ _ z)
      simp [h, h2]
  · simp [dct]
theorem dropK_dct (inj : ∀ x y, km x = km y → x = y) (l : List (κ × β)) (k : κ) : dropK (dct km vm l) (km k) = dct km vm (drp l k) := by
  unfold dropK drp dct
  rw [List.filter_map]
  congr 1
  refine List.filter_congr fun p _ => ?_
  show decide (km p.1 ≠ km k) = decide (p.1 ≠ k)
  exact decide_eq_decide.mpr ⟨fun z e => z (by rw [e]), fun z e => z (inj _ _ e)⟩
end
def kS (x : Str) : Key := .inr x
def kN (n : Nat) : Key := .inl (n : Int)
theorem kS_inj : ∀ x y, kS x = kS y → x = y := fun _ _ h => Sum.inr.inj h
theorem kN_inj : ∀ x y, kN x = kN y → x = y := fun _ _ h => Int.ofNat.inj (Sum.inl.inj h)
def optV : Option Nat → V
  | none => .non
  | some n => .int n
/-! ### what changes -/
/-- only what stands at one of S changed, and no tuple; nothing is gone -/
structure Ch (S : List Addr) (H H' : Hp) : Prop where
  kp : Kp S H H'
  tu : ∀ b xs, H b = some (.tup xs) → H' b = some (.tup xs)
  al : ∀ b o, H b = some o → ∃ u, H' b = some u
theorem Ch.refl (S : List Addr) (H : Hp) : Ch S H H := ⟨Kp.refl S H, fun _ _ h => h, fun _ o h => ⟨o, h⟩⟩
theorem Ch.trans {S : List Addr} {H H1 H2 : Hp} (a : Ch S H H1) (b : Ch S H1 H2) : Ch S H H2 := ⟨a.kp.trans b.kp, fun c xs h => b.tu c xs (a.tu c xs h), fun c o h => let ⟨u, e⟩ := a.al c o h; b.al c u e⟩
theorem Ch.mono {S T : List Addr} {H H' : Hp} (a : Ch S H H') (h : ∀ b, b ∈ S → b ∈ T) : Ch T H H' := ⟨a.kp.mono h, a.tu, a.al⟩
theorem Ch.same {S : List Addr} {H H' : Hp} (s : Same H H') : Ch S H H' := ⟨Kp.same s, fun b xs h => s b _ h, fun b o h => ⟨o, s b o h⟩⟩
theorem Ch.new {S : List Addr} {p : Addr} {H H' : Hp} {o : HO} (a : Ch S H H') (h : H' p = none) : Ch S H (upd H' p o) := a.trans (Ch.same (Same.up h))
theorem Ch.put {S : List Addr} {p : Addr} {H H' : Hp} {o u : HO} (a : Ch S H H') (h : p ∈ S) (hp : H' p = some u) (nt : ∀ xs, u ≠ .tup xs) : Ch S H (upd H' p o) :=
  ⟨a.kp.put h, fun b xs e => by
    have z := a.tu b xs e
    have ne : b ≠ p := fun q => by
      rw [q, hp] at z
      exact nt xs (Option.some.inj z)
    rw [upd_ne ne]
    exact z, fun b o' e => by
    by_cases hb : b = p
    · rw [hb]
      exact ⟨_, upd_same⟩
    · obtain ⟨v, z⟩ := a.al b o' e
      exact ⟨v, by rw [upd_ne hb]; exact z⟩⟩
theorem Ch.free {S : List Addr} {H H' : Hp} {b : Addr} (a : Ch S H H') (h : H' b = none) : H b = none := by
  cases e : H b with
  | none => rfl
  | some o =>
    obtain ⟨u, z⟩ := a.al b o e
    rw [h] at z
    cases z
/-- what was not there at first need not be named -/
theorem Ch.less {S : List Addr} {p : Addr} {H H' : Hp} (a : Ch (p :: S) H H') (h : H p = none) : Ch S H H' := ⟨a.kp.fresh h, a.tu, a.al⟩
theorem Ch.lessS {S T : List Addr} {H H' : Hp} (a : Ch T H H') (h : ∀ b ∈ T, b ∈ S ∨ H b = none) : Ch S H H' :=
  ⟨fun b o n e => a.kp b o (fun z => (h b z).elim n fun q => by rw [q] at e; cases e) e, a.tu, a.al⟩
/-! ### the cells -/
structure PC where
  S : List (Str × Option Nat)
  F : List (List (Str × Nat × Bool))
  W : List (Nat × Str)
  ke : List Nat
  cl : List (Nat × Int)
structure CAd where
  C : Addr
  dC : Addr
  st : Addr
  fi : Addr
  wi : Addr
  ke : Addr
  cl : Addr
  fl : List Addr
def CAd.foot (a : CAd) : List Addr := [a.st, a.fi, a.wi, a.ke, a.cl] ++ a.fl
/-- a field's dict -/
def FdR (H : Hp) : List (Str × Nat × Bool) → List (Key × V) → Prop := Paired fun x y => y.1 = kS x.1 ∧ ∃ t, y.2 = .ref t ∧ H t = some (.tup [.int x.2.1, .bl x.2.2])
def FdAt (H : Hp) (q : Addr) (l : List (Str × Nat × Bool)) : Prop := ∃ kvs, H q = some (.dK kvs) ∧ FdR H l kvs
structure Sz (p : PC) (B : Nat) : Prop where
  S : p.S.length ≤ B
  F : p.F.length ≤ B
  f : ∀ l ∈ p.F, l.length ≤ B
  W : p.W.length ≤ B
  k : p.ke.length ≤ B
  c : p.cl.length ≤ B
  t : (p.F.map List.length).sum ≤ B
theorem Sz.mono {p : PC} {B B' : Nat} (h : Sz p B) (hb : B ≤ B') : Sz p B' :=
  ⟨Nat.le_trans h.S hb, Nat.le_trans h.F hb, fun l hl => Nat.le_trans (h.f l hl) hb, Nat.le_trans h.W hb, Nat.le_trans h.k hb, Nat.le_trans h.c hb, Nat.le_trans h.t hb⟩
structure Cel (CC : Addr) (H : Hp) (a : CAd) (p : PC) (B : Nat) : Prop where
  hC : H a.C = some (.ins CC a.dC [("stands", .ref a.st), ("fields", .ref a.fi), ("wishes", .ref a.wi), ("kept", .ref a.ke), ("cleared", .ref a.cl)])
  hst : H a.st = some (.dK (dct kS optV p.S))
  hfi : H a.fi = some (.lst (a.fl.map V.ref))
  hwi : H a.wi = some (.dK (dct kN V.str p.W))
  hke : H a.ke = some (.dK (dct kN (fun _ => V.bl true) (p.ke.map fun c => (c, ()))))
  hcl : H a.cl = some (.dK (dct kN V.int p.cl))
  hfl : Paired (FdAt H) a.fl p.F
  nd : a.foot.Nodup
  nC : a.C ∉ a.foot
  sz : Sz p B
theorem FdR.ch {S : List Addr} {H H' : Hp} {l : List (Str × Nat × Bool)} {kvs : List (Key × V)} (h : FdR H l kvs) (c : Ch S H H') : FdR H' l kvs := by
  induction h with
  | nil => exact .nil
  | cons h1 h2 ih =>
    obtain ⟨e, t, et, ht⟩ := h1
    exact .cons ⟨e, t, et, c.tu _ _ ht⟩ ih
theorem FdAt.ch {S : List Addr} {H H' : Hp} {q : Addr} {l : List (Str × Nat × Bool)} (h : FdAt H q l) (c : Ch S H H') (n : q ∉ S) : FdAt H' q l := by
  obtain ⟨kvs, hq, hr⟩ := h
  exact ⟨kvs, c.kp _ _ n hq, hr.ch c⟩
theorem flds_ch {S : List Addr} {H H' : Hp} (c : Ch S H H') : ∀ {fl : List Addr} {F : List (List (Str × Nat × Bool))}, Paired (FdAt H) fl F → (∀ q ∈ fl, q ∉ S) → Paired (FdAt H') fl F
  | _, _, .nil, _ => .nil
  | _, _, .cons h t, n => .cons (h.ch c (n _ (List.mem_cons_self ..))) (flds_ch c t fun q hq => n q (List.mem_cons_of_mem _ hq))
theorem Cel.ch {CC : Addr} {S : List Addr} {H H' : Hp} {a : CAd} {p : PC} {B : Nat} (h : Cel CC H a p B) (c : Ch S H H') (n : ∀ b ∈ S, b ∉ a.foot ∧ b ≠ a.C) : Cel CC H' a p B := by
  have nf : ∀ b ∈ a.foot, b ∉ S := fun b hb hs => (n b hs).1 hb
  have m : ∀ x ∈ [a.st, a.fi, a.wi, a.ke, a.cl], x ∉ S := fun x hx => nf x (List.mem_append_left _ hx)
  exact ⟨c.kp _ _ (fun z => (n _ z).2 rfl) h.hC, c.kp _ _ (m _ (by simp)) h.hst, c.kp _ _ (m _ (by simp)) h.hfi, c.kp _ _ (m _ (by simp)) h.hwi, c.kp _ _ (m _ (by simp)) h.hke, c.kp _ _ (m _ (by simp)) h.hcl,
    flds_ch c h.hfl fun q hq => nf q (List.mem_append_right _ hq), h.nd, h.nC, h.sz⟩
/-- no tuple stands at an address of the cells -/
theorem Cel.foot_nt {CC : Addr} {H : Hp} {a : CAd} {p : PC} {B : Nat} (h : Cel CC H a p B) : ∀ b ∈ a.foot, ∃ u, H b = some u ∧ ∀ xs, u ≠ .tup xs := by
  intro b hb
  have key : ∀ {fl : List Addr} {F : List (List (Str × Nat × Bool))}, Paired (FdAt H) fl F → b ∈ fl → ∃ kvs, H b = some (.dK kvs) := by
    intro fl F hp
    induction hp with
    | nil => intro z; cases z
    | cons h1 h2 ih =>
      intro z
      rcases List.mem_cons.mp z with z | z
      · obtain ⟨kvs, hq, _⟩ := h1
        exact ⟨kvs, by rw [z]; exact hq⟩
      · exact ih z
  rcases List.mem_append.mp hb with hb | hb
  · simp only [List.mem_cons, List.not_mem_nil, or_false] at hb
    rcases hb with rfl | rfl | rfl | rfl | rfl
    · exact ⟨_, h.hst, fun xs z => by cases z⟩
    · exact ⟨_, h.hfi, fun xs z => by cases z⟩
    · exact ⟨_, h.hwi, fun xs z => by cases z⟩
    · exact ⟨_, h.hke, fun xs z => by cases z⟩
    · exact ⟨_, h.hcl, fun xs z => by cases z⟩
  · obtain ⟨kvs, hq⟩ := key h.hfl hb
    exact ⟨_, hq, fun xs z => by cases z⟩
end G

set_option linter.all false
namespace G
open PySem PySem.Spec PyProof.Rows L2
def top (i : Nat) : Stmt := PySem.Challenge.pw_maybegone_k79_programs_fixed.main.body.getD i (.Pass ⟨0, 0, 0, 0⟩)
end G

set_option Elab.async false
set_option linter.all false
set_option maxRecDepth 100000
set_option maxHeartbeats 4000000
namespace G
open PySem PySem.Spec PyProof.Rows L2
/-! ### the deck's def -/
abbrev s__law_deck : Stmt := top 24
abbrev n__law_deck : List Str := ["_law_script", "_law_cell"]
theorem sc__law_deck : FnScope n__law_deck ["_law_script"] (defScope s__law_deck) := ⟨rfl, rfl, rfl, by decide +kernel, rfl, by decide +kernel, by decide +kernel⟩
def spDeck (K : PySem.W.Frag) : Sp := fun vs H Q _ => ∃ (a : Addr) (ns : List Int), vs = [.ref a] ∧ SqL K H a (ns.map V.int) ∧ ns.length ≤ 63 ∧ ∀ H' D L, Same H H' → Deck H' D L 0 → H D = none → H L = none → Q (.ref D) H'
section
variable {P : Program} {w : World} {K : PySem.W.Frag} {mg : Str → Option Value} {base : Heap}
theorem ok_deck {f : Addr} {fd : FuncData} {k : Nat} (F : Fun K "_law_deck" "_law_deck" s__law_deck f fd) (T : Bi mg) : FnOk P w K mg base CX0 (k + 1) f fd ["_law_script"] (spDeck K) := by
  refine F.ok sc__law_deck (fun vs H Q E h => ?_) (fun cdv A outer s H vs Q E hr h => ?_)
  · obtain ⟨a, ns, rfl, _⟩ := h
    rfl
  obtain ⟨a, ns, rfl, hS, hlen, q⟩ := h
  refine ⟨_, (pss_one (ps_ret (pe_lst (pa_cons (pe_lc (own := [("_law_cell", 1)]) (by rfl) sc__law_deck.nd (pi_list (pe_slice sl_list (pv 0) po_none (po_some pe_int))) (blkOk_by (N := n__law_deck) (sc := defScope s__law_deck) (by decide +kernel)) (fun _ _ _ _ _ => (pg_name (i := 1) sc__law_deck.nd rfl (.inl rfl))) (fun _ _ _ _ _ => pts_nil) (fun _ _ _ _ _ => (pe_callB call_abs (by rfl) T.z_abs (by decide +kernel) (pa_cons (pv 1) pa_nil)))) (pa_cons pe_int pa_nil))))), ?_⟩
  refine ⟨_, rfl, _, rfl, a, ns.map V.int, rfl, hS, fun c nc => ?_⟩
  refine ⟨c, rfl, ⟨_, SqL.of upd_same⟩, fun L nL => ?_⟩
  have ec : cutV (ns.map V.int) none (some 63) = ns.map V.int := cut_all (by rw [List.length_map]; exact hlen)
  rw [ec] at nL ⊢
  have sc : Same H (upd H c (.lst (ns.map V.int))) := (Kp.new (Kp.refl [] H) nc).toSame
  have ncL : c ≠ L := fun e => by rw [← e, upd_same] at nL; cases nL
  refine lc_list (K := K) (a := c) (xs := ns.map V.int) (fun i H' => Kp [L] (upd H c (.lst (ns.map V.int))) H' ∧ H' L = some (.lst (((ns.map iabs).take i).map V.int)))
    ⟨(Kp.refl _ _).new nL, upd_same⟩ (fun i H' _ h => SqL.of (h.1 c _ (by simpa using ncL) upd_same)) ?_ ?_
  · rintro i x H' hi ⟨sm, hL⟩
    obtain ⟨u, eu, rfl⟩ : ∃ u, ns[i]? = some u ∧ V.int u = x := by simpa using hi
    refine ⟨rfl, .int u, rfl, u, rfl, _, hL, ?_, sm.put (by simp), ?_⟩
    · rw [List.length_map, List.length_take]
      exact small1000 (by rw [List.length_map]; omega)
    · rw [upd_same, take_step (x := iabs u) (by simp [eu]), List.map_append]
      rfl
  · rintro H' ⟨sm, hL⟩
    have sm1 : Same (upd H c (.lst (ns.map V.int))) H' := (sm.fresh nL).toSame
    refine ⟨by show 2 ≤ sizeLine; exact line1000 (by decide), fun D nD => ?_⟩
    rw [List.length_map, List.take_of_length_le (by rw [List.length_map]; exact Nat.le_refl _)] at hL
    have neDL : D ≠ L := (ne_of_none hL nD).symm
    have s2 : Same H (upd H' D (.lst [.ref L, .int 0])) := (Kp.new (S := []) (Kp.same (sc.trans sm1)) nD).toSame
    refine q _ D L s2 ⟨neDL, 0, ns.map iabs, upd_same, by rw [upd_ne neDL.symm]; exact hL, Int.le_refl _, Int.le_refl _, by rw [List.length_map]; exact hlen, fun x hx => ?_⟩ ?_ (sc.free nL)
    · obtain ⟨y, _, rfl⟩ := List.mem_map.mp hx
      exact iabs_nonneg y
    · exact (sc.trans sm1).free nD

/-! ### a draw -/
abbrev s__law_draw : Stmt := top 25
abbrev n__law_draw : List Str := ["_law_deck_here", "_law_many", "_law_cell", "_law_at", "_law_mixed"]
theorem sc__law_draw : FnScope n__law_draw ["_law_deck_here", "_law_many"] (defScope s__law_draw) := ⟨rfl, rfl, rfl, by decide +kernel, rfl, by decide +kernel, by decide +kernel⟩
def spDraw : Sp := fun vs H Q _ => ∃ (D L : Addr) (n : Nat) (many : Int), vs = [.ref D, .int many] ∧ Deck H D L n ∧ n < 10 ^ 12 ∧ 1 ≤ many ∧ many < 1073741824 ∧
  ∀ H' r, Kp [D, L] H H' → Deck H' D L (n + 1) → 0 ≤ r → r < many → Q (.int r) H'
theorem ok_draw {f : Addr} {fd : FuncData} {k : Nat} (F : Fun K "_law_draw" "_law_draw" s__law_draw f fd) (T : Bi mg) : FnOk P w K mg base CX0 (k + 1) f fd ["_law_deck_here", "_law_many"] spDraw := by
  refine F.ok sc__law_draw (fun vs H Q E h => ?_) (fun cdv A outer s H vs Q E hr h => ?_)
  · obtain ⟨D, L, n, many, rfl, _⟩ := h
    rfl
  obtain ⟨D, L, n, many, rfl, hD, hn, hm1, hm2, q⟩ := h
  refine ⟨_, (pss_cons (ps_asg (pe_op op_add (pe_ix ix_list (pv 0) pe_int (fun _ _ => rfl)) pe_int) (pg_sub (pv 0) pe_int set_list))
      (pss_cons (ps_asg (pe_tup (pa_cons pe_int (pa_cons (pe_un un_neg pe_int) pa_nil))) (pg_tup rfl (pgs_cons (pg_name (i := 2) sc__law_draw.nd rfl (.inl rfl)) (pgs_cons (pg_name (i := 3) sc__law_draw.nd rfl (.inl rfl)) pgs_nil))))
      (pss_cons (ps_if (pt_cmpR op_gt (pe_callB call_len_seq (by rfl) T.z_len (by decide +kernel) (pa_cons (pe_ix ix_list (pv 0) pe_int (fun _ _ => rfl)) pa_nil)) pe_int (nomark _))
      (pss_cons (ps_set (i := 3) sc__law_draw.nd rfl (.inl rfl) (pe_op op_modN (pe_callTy call_int1 (by rfl) T.z_int (by decide +kernel) (pa_cons (pe_ix ix_list (pv 0) pe_int (fun _ _ => rfl)) pa_nil)) (pe_callB call_len_seq (by rfl) T.z_len (by decide +kernel) (pa_cons (pe_ix ix_list (pv 0) pe_int (fun _ _ => rfl)) pa_nil))))
      (pss_one (ps_set (i := 2) sc__law_draw.nd rfl (.inl rfl) (pe_ix ix_list (pe_ix ix_list (pv 0) pe_int (fun _ _ => rfl)) (pv 3) (fun _ _ => rfl)))))
      pss_nil)
      (pss_cons (ps_if (pt_cmpR op_ge (pv 2) (pe_op op_pow pe_int pe_int) (nomark _))
      (pss_cons (ps_asg (pe_op op_fdivN (pe_callTy call_int1 (by rfl) T.z_int (by decide +kernel) (pa_cons (pv 2) pa_nil)) (pv 1)) (pg_sub (pe_ix ix_list (pv 0) pe_int (fun _ _ => rfl)) (pv 3) set_list))
      (pss_one (ps_ret (pe_op op_modN (pe_callTy call_int1 (by rfl) T.z_int (by decide +kernel) (pa_cons (pv 2) pa_nil)) (pv 1)))))
      pss_nil)
      (pss_cons (ps_set (i := 4) sc__law_draw.nd rfl (.inl rfl) (pe_op op_add (pe_op op_add (pe_op op_modN (pe_callTy call_int1 (by rfl) T.z_int (by decide +kernel) (pa_cons (pv 2) pa_nil)) pe_int) (pe_op op_mul pe_int (pe_ix ix_list (pv 0) pe_int (fun _ _ => rfl)))) pe_int))
      (pss_one (ps_ret (pe_op op_modN (pe_callTy call_int1 (by rfl) T.z_int (by decide +kernel) (pa_cons (pe_op op_modN (pe_callTy call_int1 (by rfl) T.z_int (by decide +kernel) (pa_cons (pe_op op_pow (pv 4) pe_int) pa_nil)) pe_int) pa_nil)) (pv 1))))))))), ?_⟩
  obtain ⟨ne, m, ns, h1, h2, h3, h4, h5, h6⟩ := hD
  have a1 : ∀ (l : Addr) (x : V), atI [V.ref l, x] 1 = some x := fun l x => atI_nat (j := 1) rfl
  have a0 : ∀ (l : Addr) (x : V), atI [V.ref l, x] 0 = some (V.ref l) := fun l x => atI_nat (j := 0) rfl
  -- deck[1] = deck[1] + 1
  refine ⟨.ref D, rfl, D, _, 1, _, rfl, rfl, SqL.of h1, a1 _ _, m, 1, rfl, rfl, ?_⟩
  refine ⟨.ref D, rfl, D, _, 1, 1, rfl, rfl, h1, rfl, ?_⟩
  have e1 : ([V.ref L, V.int m].set 1 (V.int (m + 1))) = [V.ref L, V.int (m + 1)] := rfl
  rw [e1]
  obtain ⟨H1, hH1⟩ : ∃ H1, H1 = upd H D (.lst [V.ref L, V.int (m + 1)]) := ⟨_, rfl⟩
  rw [← hH1]
  have k1 : Kp [D, L] H H1 := by rw [hH1]; exact (Kp.refl _ _).put (by simp)
  have g1 : H1 D = some (.lst [V.ref L, V.int (m + 1)]) := by rw [hH1, upd_same]
  have g2 : H1 L = some (.lst (ns.map V.int)) := by rw [hH1, upd_ne ne.symm]; exact h2
  -- _law_cell, _law_at = (0, -1)
  refine ⟨1, rfl, by show 2 ≤ sizeLine; exact line1000 (by decide), fun p np => ?_⟩
  refine ⟨p, _, rfl, SqT.of upd_same, rfl, _, _, rfl, _, _, rfl, rfl, ?_⟩
  have npD : D ≠ p := ne_of_none g1 np
  have npL : L ≠ p := ne_of_none g2 np
  obtain ⟨H2, hH2⟩ : ∃ H2, H2 = upd H1 p (.tup [V.int 0, V.int (-1)]) := ⟨_, rfl⟩
  rw [← hH2]
  have k2 : Kp [D, L] H H2 := by rw [hH2]; exact k1.new np
  have f1 : H2 D = some (.lst [V.ref L, V.int (m + 1)]) := by rw [hH2, upd_ne npD]; exact g1
  have f2 : H2 L = some (.lst (ns.map V.int)) := by rw [hH2, upd_ne npL]; exact g2
  -- if len(deck[0]) > 0
  refine ⟨.ref D, rfl, D, _, 0, _, rfl, rfl, SqL.of f1, a0 _ _, L, _, rfl, .inl (SqL.of f2), _, _, rfl, rfl, _, rfl, ite2 (fun c => ?w1) (fun c => ?w2)⟩
  case' w1 =>
    have hpos : (0 : Int) < ((ns.map V.int).length : Int) := of_decide_eq_true c
    have hlen : (ns.map V.int).length = ns.length := List.length_map _
    refine ⟨.ref D, rfl, D, _, 1, _, rfl, rfl, SqL.of f1, a1 _ _, .inl ⟨_, rfl, .ref D, rfl, D, _, 0, _, rfl, rfl, SqL.of f1, a0 _ _, L, _, rfl, .inl (SqL.of f2), m + 1, _, rfl, rfl, by omega, ?_⟩⟩
    obtain ⟨at_, eat⟩ : ∃ at_, at_ = (m + 1).fmod ((ns.map V.int).length : Int) := ⟨_, rfl⟩
    dsimp only
    rw [← eat]
    rw [Int.fmod_eq_emod_of_nonneg _ (by omega)] at eat
    have b0 : 0 ≤ at_ := by rw [eat]; exact Int.emod_nonneg _ (by omega)
    have b1 : at_ < (ns.length : Int) := by rw [eat, hlen]; exact Int.emod_lt_of_pos _ (by omega)
    have b2 : at_.toNat < ns.length := by omega
    have hat : atI (ns.map V.int) at_ = some (.int ns[at_.toNat]) := by
      have z := atI_nat (xs := ns.map V.int) (j := at_.toNat) (v := .int ns[at_.toNat]) (by simp)
      rwa [show ((at_.toNat : Nat) : Int) = at_ by omega] at z
    refine ⟨.ref D, rfl, D, _, 0, _, rfl, rfl, SqL.of f1, a0 _ _, .int at_, rfl, L, _, at_, _, rfl, rfl, SqL.of f2, hat, ?_⟩
    have hc0 : 0 ≤ ns[at_.toNat] := h6 _ (List.getElem_mem b2)
    have hcat : 10 ^ 18 ≤ ns[at_.toNat] → 0 ≤ at_ ∧ at_.toNat < ns.length := fun _ => ⟨b0, b2⟩
    obtain ⟨cell, ecell⟩ : ∃ cell, cell = ns[at_.toNat] := ⟨_, rfl⟩
    rw [← ecell] at hc0 hcat ⊢
    clear c
  case' w2 =>
    obtain ⟨cell, ecell⟩ : ∃ cell : Int, cell = 0 := ⟨_, rfl⟩
    obtain ⟨at_, eat⟩ : ∃ at_ : Int, at_ = -1 := ⟨_, rfl⟩
    have hc0 : 0 ≤ cell := by omega
    have hcat : 10 ^ 18 ≤ cell → 0 ≤ at_ ∧ at_.toNat < ns.length := fun z => by omega
    clear c
    show tSeq _ _ _ [some (.ref D), some (.int many), some (.int 0), some (.int (-1)), none] H2
    rw [show (some (V.int 0) : Option V) = some (V.int cell) by rw [ecell], show (some (V.int (-1)) : Option V) = some (V.int at_) by rw [eat]]
  all_goals
    refine ⟨_, rfl, ⟨10, 18, rfl, rfl, ⟨by omega, by omega, by decide⟩, ?_⟩⟩
    refine ⟨_, _, rfl, rfl, _, rfl, ite2 (fun c => ?_) (fun c => ?_)⟩
    · have c18 : (10 : Int) ^ 18 ≤ cell := of_decide_eq_true c
      obtain ⟨b0, b2⟩ := hcat c18
      refine ⟨_, rfl, .inl ⟨cell, rfl, .int many, rfl, cell, many, rfl, rfl, ⟨by omega, by omega⟩, ?_⟩⟩
      refine ⟨.ref D, rfl, D, _, 0, _, rfl, rfl, SqL.of f1, a0 _ _, .int at_, rfl, L, _, at_, at_.toNat, rfl, rfl, f2, ?_, ?_⟩
      · unfold ixN
        rw [if_pos b0, if_pos (by rw [List.length_map]; omega)]
      · refine ⟨_, rfl, .inl ⟨cell, rfl, .int many, rfl, cell, many, rfl, rfl, by omega, ?_⟩⟩
        dsimp only
        rw [Int.fmod_eq_emod_of_nonneg _ (by omega), Int.fdiv_eq_ediv_of_nonneg _ (by omega)]
        refine q _ _ (k2.put (by simp)) ⟨ne, m + 1, ns.set at_.toNat (cell / many), by rw [upd_ne ne]; exact f1, by rw [upd_same, List.map_set], by omega, by omega, by rw [List.length_set]; exact h5, fun x hx => ?_⟩ (Int.emod_nonneg _ (by omega)) (Int.emod_lt_of_pos _ (by omega))
        rcases List.mem_or_eq_of_mem_set hx with hx | hx
        · exact h6 x hx
        · rw [hx]
          exact Int.ediv_nonneg hc0 (by omega)
    · refine ⟨_, rfl, .inl ⟨cell, rfl, cell, 2147483563, rfl, rfl, by omega, .ref D, rfl, D, _, 1, _, rfl, rfl, SqL.of f1, a1 _ _, 8117, m + 1, rfl, rfl, .inl ⟨by omega, by omega⟩, _, _, rfl, rfl, _, 3, rfl, rfl, ?_⟩⟩
      have t1 : cell.fmod 2147483563 = cell % 2147483563 := Int.fmod_eq_emod_of_nonneg _ (by omega)
      have z1 : 0 ≤ cell % 2147483563 := Int.emod_nonneg _ (by omega)
      have z2 : cell % 2147483563 < 2147483563 := Int.emod_lt_of_pos _ (by omega)
      dsimp only
      rw [t1]
      obtain ⟨mx, emx⟩ : ∃ mx, mx = cell % 2147483563 + 8117 * (m + 1) + 3 := ⟨_, rfl⟩
      rw [← emx]
      refine ⟨.int mx, rfl, mx, 5, rfl, rfl, ⟨by omega, by omega, by omega⟩, ?_⟩
      refine .inl ⟨_, rfl, _, 2147483629, rfl, rfl, by omega, .inl ⟨_, rfl, .int many, rfl, _, many, rfl, rfl, by omega, ?_⟩⟩
      dsimp only
      rw [Int.fmod_eq_emod_of_nonneg _ (by omega : (0 : Int) ≤ many)]
      exact q _ _ k2 ⟨ne, m + 1, ns, f1, f2, by omega, by omega, h5, h6⟩ (Int.emod_nonneg _ (by omega)) (Int.emod_lt_of_pos _ (by omega))
end
end G

set_option Elab.async false
set_option linter.all false
set_option maxRecDepth 100000
set_option maxHeartbeats 4000000
namespace G
open PySem PySem.Spec PyProof.Rows L2
abbrev s__law_one : Stmt := top 26
abbrev n__law_one : List Str := ["_law_deck_here", "_law_items"]
theorem sc__law_one : FnScope n__law_one ["_law_deck_here", "_law_items"] (defScope s__law_one) := ⟨rfl, rfl, rfl, by decide +kernel, rfl, by decide +kernel, by decide +kernel⟩
/-- one of the items of a list (that is no part of the deck), of a tuple, or one sign of a text -/
def spOne (K : PySem.W.Frag) : Sp := fun vs H Q _ => ∃ (D L : Addr) (n : Nat) (v : V), vs = [.ref D, v] ∧ Deck H D L n ∧ n < 10 ^ 12 ∧
  ((∃ (a : Addr) (xs : List V), v = .ref a ∧ ((SqL K H a xs ∧ a ∉ [D, L]) ∨ (SqT K H a xs ∧ a ∉ [D, L])) ∧ 0 < xs.length ∧ xs.length ≤ 1000 ∧ ∀ H' y, Kp [D, L] H H' → Deck H' D L (n + 1) → y ∈ xs → Q y H') ∨
   (∃ z : Str, v = .str z ∧ 0 < z.length ∧ z.length ≤ 1000 ∧ ∀ H' c, Kp [D, L] H H' → Deck H' D L (n + 1) → c ∈ z.cps.toList → Q (.str ⟨#[c]⟩) H'))
theorem Kp.seqT {K : PySem.W.Frag} {S : List Addr} {a : Addr} {H H' : Hp} {xs : List V} (k : Kp S H H') (d : a ∉ S) (h : SqT K H a xs) : SqT K H' a xs := by
  rcases h with (h | ⟨o, h⟩) | h
  · exact .inl (.inl (k _ _ d h))
  · exact .inl (.inr ⟨o, k _ _ d h⟩)
  · exact .inr h
theorem atI_in {α : Type} {xs : List α} {r : Int} (h0 : 0 ≤ r) (h1 : r < (xs.length : Int)) : ∃ y, atI xs r = some y ∧ y ∈ xs := by
  have b : r.toNat < xs.length := by omega
  refine ⟨xs[r.toNat], ?_, List.getElem_mem b⟩
  have z := atI_nat (xs := xs) (j := r.toNat) (v := xs[r.toNat]) (List.getElem?_eq_getElem b)
  rwa [show ((r.toNat : Nat) : Int) = r by omega] at z
section
variable {P : Program} {w : World} {K : PySem.W.Frag} {mg : Str → Option Value} {base : Heap}
theorem ok_one {f f1 : Addr} {fd fd1 : FuncData} {k : Nat} (F : Fun K "_law_one" "_law_one" s__law_one f fd) (T : Bi mg) (G1 : FnOk P w K mg base CX0 k f1 fd1 ["_law_deck_here", "_law_many"] spDraw) (k1 : PySem.W.keepIn K (.ref f1) = true)
    (b1 : Binds K fd1 ["_law_deck_here", "_law_many"] []) (m1 : mg "_law_draw" = some (.ref f1)) : FnOk P w K mg base CX0 (k + 1) f fd ["_law_deck_here", "_law_items"] (spOne K) := by
  refine F.ok sc__law_one (fun vs H Q E h => ?_) (fun cdv A outer s H vs Q E hr h => ?_)
  · obtain ⟨D, L, n, v, rfl, _⟩ := h
    rfl
  obtain ⟨D, L, n, v, rfl, hD, hn, h⟩ := h
  refine ⟨_, (pss_one (ps_ret (pe_ix ix_seq (pv 1) (pe_call G1 hr (by rfl) m1 k1 b1 .nil pass0 (pa_cons (pv 0) (pa_cons (pe_callB call_len (by rfl) T.z_len (by decide +kernel) (pa_cons (pv 1) pa_nil)) pa_nil))) (fun _ _ => rfl)))), ?_⟩
  rcases h with ⟨a, xs, rfl, h, h0, hz, q⟩ | ⟨z, rfl, h0, hz, q⟩
  · refine ⟨.ref a, rfl, .ref D, rfl, .ref a, rfl, .ref a, xs.length, rfl, ?_, D, L, n, _, rfl, hD, hn, by omega, by omega, fun H' r kp hD' r0 r1 => ?_⟩
    · rcases h with h | h
      · exact .inl ⟨xs, h.1, rfl⟩
      · exact .inr ⟨xs, h.1, rfl⟩
    · obtain ⟨y, ey, hy⟩ := atI_in r0 r1
      rcases h with h | h
      · exact .inl ⟨a, xs, r, y, rfl, rfl, kp.seq h.2 h.1, ey, q H' y kp hD' hy⟩
      · exact .inr (.inl ⟨a, xs, r, y, rfl, rfl, kp.seqT h.2 h.1, ey, q H' y kp hD' hy⟩)
  · refine ⟨.str z, rfl, .ref D, rfl, .str z, rfl, .str z, z.length, rfl, ⟨line1000 hz, rfl⟩, D, L, n, _, rfl, hD, hn, by omega, by omega, fun H' r kp hD' r0 r1 => ?_⟩
    obtain ⟨c, ec, hc⟩ := atI_in (xs := z.cps.toList) r0 (by rw [Array.length_toList]; exact r1)
    exact .inr (.inr ⟨z, r, c, rfl, rfl, line1000 hz, ec, q H' c kp hD' hc⟩)
end
end G

set_option Elab.async false
set_option linter.all false
set_option maxRecDepth 100000
set_option maxHeartbeats 4000000
/-! Programs as data, drawn: names, tests, statements. -/
namespace G
open PySem PySem.Spec PyProof.Rows L2
structure Df (K : PySem.W.Frag) (mg : Str → Option Value) (x : Str) (st : Stmt) (ps : List Str) (f : Addr) (fd : FuncData) : Prop where
  F : Fun K x x st f fd
  b : Binds K fd ps []
  m : mg x = some (.ref f)
mutual
inductive TD (H : Hp) : V → PyData → Prop
  | non : TD H .non .none
  | bl (b : Bool) : TD H (.bl b) (.bool b)
  | int (i : Int) : TD H (.int i) (.int i)
  | str (x : Str) : TD H (.str x) (.str x)
  | tup {a : Addr} {xs : List V} {ds : List PyData} : H a = some (.tup xs) → TDs H xs ds → TD H (.ref a) (.tuple ds)
inductive TDs (H : Hp) : List V → List PyData → Prop
  | nil : TDs H [] []
  | cons {v : V} {vs : List V} {d : PyData} {ds : List PyData} : TD H v d → TDs H vs ds → TDs H (v :: vs) (d :: ds)
end
mutual
theorem TD.ch {S : List Addr} {H H' : Hp} (c : Ch S H H') : ∀ (d : PyData) (v : V), TD H v d → TD H' v d
  | .none, _, h => by cases h; exact .non
  | .bool b, _, h => by cases h; exact .bl b
  | .int i, _, h => by cases h; exact .int i
  | .str x, _, h => by cases h; exact .str x
  | .list ds, _, h => nomatch h
  | .tuple ds, _, h => by
    cases h with
    | tup h1 h2 => exact .tup (c.tu _ _ h1) (TDs.ch c ds _ h2)
  | .dict _, _, h => nomatch h
theorem TDs.ch {S : List Addr} {H H' : Hp} (c : Ch S H H') : ∀ (ds : List PyData) (vs : List V), TDs H vs ds → TDs H' vs ds
  | [], _, h => by cases h; exact .nil
  | d :: ds, _, h => by
    cases h with
    | cons h1 h2 => exact .cons (TD.ch c d _ h1) (TDs.ch c ds _ h2)
end
theorem TDs.snoc {H : Hp} : ∀ {vs : List V} {ds : List PyData} {v : V} {d : PyData}, TDs H vs ds → TD H v d → TDs H (vs ++ [v]) (ds ++ [d])
  | _, _, _, _, .nil, h => .cons h .nil
  | _, _, _, _, .cons h1 h2, h => .cons h1 (h2.snoc h)
theorem TDs.append {H : Hp} : ∀ {a : List V} {da : List PyData} {b : List V} {db : List PyData}, TDs H a da → TDs H b db → TDs H (a ++ b) (da ++ db)
  | _, _, _, _, .nil, h => h
  | _, _, _, _, .cons h1 h2, h => .cons h1 (h2.append h)
theorem TDs.len {H : Hp} : ∀ {vs : List V} {ds : List PyData}, TDs H vs ds → vs.length = ds.length
  | _, _, .nil => rfl
  | _, _, .cons _ t => by rw [List.length_cons, List.length_cons, t.len]
theorem TDs.mem {H : Hp} : ∀ {vs : List V} {ds : List PyData}, TDs H vs ds → ∀ v ∈ vs, ∃ d ∈ ds, TD H v d
  | _, _, .nil, v, h => nomatch h
  | _, _, .cons h1 h2, v, h => by
    rcases List.mem_cons.mp h with rfl | h
    · exact ⟨_, List.mem_cons_self .., h1⟩
    · obtain ⟨d, hd, t⟩ := h2.mem v h
      exact ⟨d, List.mem_cons_of_mem _ hd, t⟩
/-! ### on paper -/
inductive Tst
  | given (i : Nat)
  | set (x : Str)
  | same (x y : Str)
  | full (x f : Str)
  | wished (w : Str)
  | not (t : Tst)
def Tst.depth : Tst → Nat
  | .not t => t.depth + 1
  | _ => 0
def Tst.data : Tst → PyData
  | .given i => .tuple [.str "given", .int i]
  | .set x => .tuple [.str "set", .str x]
  | .same x y => .tuple [.str "same", .str x, .str y]
  | .full x f => .tuple [.str "full", .str x, .str f]
  | .wished w => .tuple [.str "wished", .str w]
  | .not t => .tuple [.str "not", t.data]
inductive Act
  | make (x : Str)
  | wish (x w : Str)
  | keep (x : Str)
  | name (x y : Str)
  | drop (x : Str)
  | hold (x f y : Str)
  | weak (x f y : Str)
  | cut (x f : Str)
  | take (z x f : Str)
  | say (w : Str)
  | ask (t : Tst)
def Act.data : Act → PyData
  | .make x => .tuple [.str "make", .str x]
  | .wish x w => .tuple [.str "wish", .str x, .str w]
  | .keep x => .tuple [.str "keep", .str x]
  | .name x y => .tuple [.str "name", .str x, .str y]
  | .drop x => .tuple [.str "drop", .str x]
  | .hold x f y => .tuple [.str "hold", .str x, .str f, .str y]
  | .weak x f y => .tuple [.str "weak", .str x, .str f, .str y]
  | .cut x f => .tuple [.str "cut", .str x, .str f]
  | .take z x f => .tuple [.str "take", .str z, .str x, .str f]
  | .say w => .tuple [.str "say", .str w]
  | .ask t => .tuple [.str "ask", t.data]
inductive Sta
  | act (a : Act)
  | cond (t : Tst) (y n : List Sta)
  | rep (k : Nat) (b : List Sta)
mutual
def Sta.data : Sta → PyData
  | .act a => a.data
  | .cond t y n => .tuple [.str "if", t.data, .tuple (blkData y), .tuple (blkData n)]
  | .rep k b => .tuple [.str "repeat", .int k, .tuple (blkData b)]
def blkData : List Sta → List PyData
  | [] => []
  | s :: r => s.data :: blkData r
end
theorem blkData_eq : ∀ b : List Sta, blkData b = b.map Sta.data
  | [] => rfl
  | s :: r => by
    show s.data :: blkData r = _
    rw [blkData_eq r]
    rfl
mutual
def Sta.size : Sta → Nat
  | .act _ => 1
  | .cond _ y n => 1 + (sizeB y + sizeB n)
  | .rep _ b => 1 + sizeB b
def sizeB : List Sta → Nat
  | [] => 0
  | s :: r => s.size + sizeB r
end
theorem sizeB_snoc (s : Sta) : ∀ b : List Sta, sizeB (b ++ [s]) = sizeB b + s.size
  | [] => by show s.size + 0 = 0 + s.size; omega
  | x :: r => by
    show x.size + sizeB (r ++ [s]) = x.size + sizeB r + s.size
    rw [sizeB_snoc s r]; omega
/-- a drawn text: short, of Unicode's signs -/
def Nm (x : Str) : Prop := x.length ≤ 8 ∧ OkS x
def Tst.nm : Tst → Prop
  | .given i => i < 4
  | .set x => Nm x
  | .same x y => Nm x ∧ Nm y
  | .full x y => Nm x ∧ Nm y
  | .wished x => Nm x
  | .not t => t.nm
def Tst.ok (t : Tst) : Prop := t.nm ∧ t.depth ≤ 3
def Act.nm : Act → Prop
  | .make x => Nm x
  | .wish x w => Nm x ∧ Nm w
  | .keep x => Nm x
  | .name x y => Nm x ∧ Nm y
  | .drop x => Nm x
  | .hold x f y => Nm x ∧ Nm f ∧ Nm y
  | .weak x f y => Nm x ∧ Nm f ∧ Nm y
  | .cut x f => Nm x ∧ Nm f
  | .take z x f => Nm z ∧ Nm x ∧ Nm f
  | .say w => Nm w
  | .ask t => t.ok
/-- statements so deep at most -/
def StaOk : Nat → Sta → Prop
  | _, .act a => a.nm
  | 0, _ => False
  | d + 1, .cond t y n => t.ok ∧ (∀ s ∈ y, StaOk d s) ∧ ∀ s ∈ n, StaOk d s
  | d + 1, .rep k b => k < 13 ∧ ∀ s ∈ b, StaOk d s
/-! ### texts that grow -/
theorem join_len (ys : List Str) (B : Nat) (h : ∀ y ∈ ys, y.length ≤ B) : (Txt.join "" ys).length ≤ ys.length * B := by
  rw [TL.join_eq]
  induction ys with
  | nil => exact Nat.zero_le _
  | cons y r ih =>
    have ih := ih fun z hz => h z (List.mem_cons_of_mem _ hz)
    have hy := h y (List.mem_cons_self ..)
    cases r with
    | nil =>
      show y.length ≤ 1 * B
      omega
    | cons z r =>
      show (y ++ ("" : Str) ++ Str.join "" (z :: r)).length ≤ ((z :: r).length + 1) * B
      rw [strLen_append, strLen_append, Nat.add_mul, Nat.one_mul]
      have e0 : ("" : Str).length = 0 := rfl
      omega
theorem sum_le (ys : List Str) (B : Nat) (h : ∀ y ∈ ys, y.length ≤ B) : (ys.map (·.length)).sum ≤ ys.length * B := by
  induction ys with
  | nil => exact Nat.zero_le _
  | cons y r ih =>
    have ih := ih fun z hz => h z (List.mem_cons_of_mem _ hz)
    have hy := h y (List.mem_cons_self ..)
    rw [List.map_cons, List.sum_cons, List.length_cons, Nat.add_mul, Nat.one_mul]
    omega
theorem join0_ok (ys : List Str) (h : ∀ y ∈ ys, OkS y) : OkS (Txt.join "" ys) := by
  rw [TL.join_eq]
  induction ys with
  | nil => exact OkS.of ""
  | cons y r ih =>
    have ih := ih fun z hz => h z (List.mem_cons_of_mem _ hz)
    have hy := h y (List.mem_cons_self ..)
    cases r with
    | nil => exact hy
    | cons z r => exact (hy.app (OkS.of "")).app ih
theorem sign_ok {c : Nat} {s : String} (h : c ∈ (Str.ofString s).cps.toList) : OkS ⟨#[c]⟩ := fun x hx => by
  have e : x = c := by simpa using hx
  rw [e]
  exact OkS.of s c h
/-- a new list of texts grows at a, one a turn, each turn takes at most c numbers of the deck -/
def GrowS (D L a : Addr) (H1 : Hp) (m c B : Nat) (i : Nat) (H' : Hp) : Prop := ∃ ys : List Str, Ch [a, D, L] H1 H' ∧ Deck H' D L (m + i * c) ∧ H' a = some (.lst (ys.map V.str)) ∧ ys.length = i ∧ ∀ y ∈ ys, y.length ≤ B ∧ OkS y
theorem GrowS.start {D L a : Addr} {H1 : Hp} {m c B : Nat} (d : Deck H1 D L m) (na : H1 a = none) : GrowS D L a H1 m c B 0 (upd H1 a (.lst [])) :=
  ⟨[], (Ch.refl _ _).new na, (d.new na).mono (by omega), upd_same, rfl, fun _ z => nomatch z⟩
theorem GrowS.step {D L a : Addr} {H1 H' H4 : Hp} {m c B i : Nat} {y : Str} (g : GrowS D L a H1 m c B i H') (hi : i < 1000) (kp : Ch [D, L] H' H4) (d : Deck H4 D L (m + i * c + c)) (ne : a ∉ [D, L]) (hy : y.length ≤ B) (ho : OkS y) :
    ∃ acc, H4 a = some (.lst acc) ∧ acc.length < sizeLine ∧ GrowS D L a H1 m c B (i + 1) (upd H4 a (.lst (acc ++ [.str y]))) := by
  obtain ⟨ys, k0, d0, ha, hl, hb⟩ := g
  have ne1 : a ≠ D := fun z => ne (by simp [z])
  have ne2 : a ≠ L := fun z => ne (by simp [z])
  have ha4 := kp.kp _ _ ne ha
  refine ⟨_, ha4, by rw [List.length_map, hl]; exact small1000 (by omega), ys ++ [y], (k0.trans (kp.mono fun b hb => List.mem_cons_of_mem _ hb)).put (by simp) ha4 (fun xs z => by cases z), ?_, ?_, by rw [List.length_append, hl]; rfl, fun z hz => ?_⟩
  · refine Deck.mono (n := m + i * c + c) ?_ (by rw [Nat.add_mul]; omega)
    exact d.kp (S := [a]) ((Kp.refl _ _).put (by simp)) (by simpa using ne1.symm) (by simpa using ne2.symm)
  · rw [upd_same, List.map_append]
    rfl
  · rcases List.mem_append.mp hz with hz | hz
    · exact hb z hz
    · rw [List.mem_singleton.mp hz]
      exact ⟨hy, ho⟩
theorem deck_ch {H H' : Hp} {D L : Addr} {n n' : Nat} (d : Deck H D L n) (d' : Deck H' D L n') (k : Kp [D, L] H H') : Ch [D, L] H H' := by
  obtain ⟨ne, m, ns, h1, h2, _⟩ := d
  obtain ⟨_, m', ns', g1, g2, _⟩ := d'
  refine ⟨k, fun b xs e => ?_, fun b o e => ?_⟩
  · refine k _ _ (fun z => ?_) e
    rcases List.mem_cons.mp z with rfl | z
    · rw [h1] at e; cases e
    · rw [List.mem_singleton.mp z, h2] at e; cases e
  · by_cases z : b ∈ [D, L]
    · rcases List.mem_cons.mp z with rfl | z
      · exact ⟨_, g1⟩
      · rw [List.mem_singleton.mp z]; exact ⟨_, g2⟩
    · exact ⟨o, k _ _ z e⟩
def rAddE : R2 := fun x y H Q => ∃ i j, x = .int i ∧ y = .int j ∧ ∀ z, z = i + j → Q (.int z) H
theorem op_addE {X : Cx} : OpR X (binaryOp .Add) rAddE := by
  intro pins s σ H x y v u Q I rx ry h
  obtain ⟨i, j, rfl, rfl, q⟩ := h
  exact op_add pins s σ H _ _ v u Q I rx ry ⟨i, j, rfl, rfl, q _ rfl⟩
end G

set_option Elab.async false
set_option linter.all false
set_option maxRecDepth 100000
set_option maxHeartbeats 4000000
/-! Written data: what an expression of tuples, texts and names gives. -/
namespace G
open PySem PySem.Spec PyProof.Rows L2 StX
abbrev CT := L2.St → Hp → Prop
def Stable (C : CT) : Prop := ∀ σ H H', Same H H' → C σ H → C σ H'
def MkE (C : CT) (te : TE) (d : PyData) : Prop := ∀ σ H Q, C σ H → (∀ H' v, Same H H' → TD H' v d → Q v H') → te σ H Q
def MkA (C : CT) (t : TA) (ds : List PyData) : Prop := ∀ σ H Q, C σ H → (∀ H' vs, Same H H' → TDs H' vs ds → Q vs H') → t σ H Q
variable {C : CT}
theorem mkA_nil : MkA C tNil [] := fun _ H Q _ q => q H [] (Same.refl _) .nil
theorem mkA_cons {te : TE} {t : TA} {d : PyData} {ds : List PyData} (hC : Stable C) (h : MkE C te d) (ht : MkA C t ds) : MkA C (tCons te t) (d :: ds) := fun σ H Q c q =>
  h σ H _ c fun H1 v s1 td => ht σ H1 _ (hC _ _ _ s1 c) fun H2 vs s2 tds => q H2 (v :: vs) (Same.trans s1 s2) (.cons (TD.ch (Ch.same (S := []) s2) _ _ td) tds)
theorem mk_tup {t : TA} {ds : List PyData} (ht : MkA C t ds) (hl : ds.length ≤ 1000) : MkE C (tTup t) (.tuple ds) := fun σ H Q c q =>
  ht σ H _ c fun H1 vs s1 tds => ⟨by rw [tds.len]; exact line1000 hl, fun p np => q _ _ (Same.trans s1 (Same.up np)) (.tup upd_same (TDs.ch (Ch.same (S := []) (Same.up np)) _ _ tds))⟩
theorem mk_str (x : Str) : MkE C (tC (.str x)) (.str x) := fun σ H Q _ q => q H _ (Same.refl _) (.str x)
theorem mk_int (i : Int) : MkE C (tC (.int i)) (.int i) := fun σ H Q _ q => q H _ (Same.refl _) (.int i)
theorem mk_bl (b : Bool) : MkE C (tC (.bl b)) (.bool b) := fun σ H Q _ q => q H _ (Same.refl _) (.bl b)
theorem mk_var {i : Nat} {d : PyData} (h : ∀ σ H, C σ H → ∃ v, σ[i]? = some (some v) ∧ TD H v d) : MkE C (tVar i) d := fun σ H Q c q => let ⟨v, e, td⟩ := h σ H c; ⟨v, e, q H v (Same.refl _) td⟩
theorem mk_nix {K : PySem.W.Frag} {i : Nat} {k : Nat} {x : Str} (h : ∀ σ H, C σ H → ∃ N xs, σ[i]? = some (some (.ref N)) ∧ H N = some (.lst xs) ∧ xs[k]? = some (.str x)) : MkE C (tOp (rIxL K) (tVar i) (tC (.int (k : Nat)))) (.str x) := fun σ H Q c q => by
  obtain ⟨N, xs, e, hN, hx⟩ := h σ H c
  exact ⟨.ref N, e, N, xs, _, _, rfl, rfl, SqL.of hN, atI_nat hx, q H _ (Same.refl _) (.str x)⟩
theorem lst_read {C : CT} {t : TA} {ds : List PyData} (ht : MkA C t ds) (hl : ds.length ≤ 1000) (σ : L2.St) (H : Hp) (Q : VK) (c : C σ H) (q : ∀ H' F xs, Same H H' → H' F = some (.lst xs) → TDs H' xs ds → H F = none → Q (.ref F) H') : tLst t σ H Q :=
  ht σ H _ c fun H1 vs s1 tds => ⟨by rw [tds.len]; exact line1000 hl, fun p np => q _ p vs (Same.trans s1 (Same.up np)) upd_same (TDs.ch (Ch.same (S := []) (Same.up np)) _ _ tds) (by
    cases e : H p with
    | none => rfl
    | some o => rw [s1 _ _ e] at np; cases np)⟩
/-- a written list of data, the data by what was drawn -/
def tMkL {α : Type} (D : α → CT × List PyData) : TE := fun σ H Q => ∃ a, (D a).1 σ H ∧ ∀ H' F xs, Same H H' → H' F = some (.lst xs) → TDs H' xs (D a).2 → H F = none → Q (.ref F) H'
theorem pe_mkL {X : Cx} {es : List Expr} {t : TA} {pos : Pos} {α : Type} (D : α → CT × List PyData) (h : PA X es t) (m : ∀ a, MkA (D a).1 t (D a).2) (hl : ∀ a, (D a).2.length ≤ 1000) : PE X (.List es pos) (tMkL D) :=
  ⟨fun pins s σ H Q I ⟨a, c, q⟩ => (pe_lst h).run pins s σ H Q I (lst_read (m a) (hl a) σ H Q c q)⟩
/-- a written tuple -/
def tMkT {α : Type} (D : α → CT × PyData) : TE := fun σ H Q => ∃ a, (D a).1 σ H ∧ ∀ H' v, Same H H' → TD H' v (D a).2 → Q v H'
theorem pe_mkT {X : Cx} {e : Expr} {te : TE} {α : Type} (D : α → CT × PyData) (h : PE X e te) (m : ∀ a, MkE (D a).1 te (D a).2) : PE X e (tMkT D) :=
  ⟨fun pins s σ H Q I ⟨a, c, q⟩ => h.run pins s σ H Q I (m a σ H Q c q)⟩
/-! ### what is known where it is written -/
end G

set_option Elab.async false
set_option linter.all false
set_option maxRecDepth 100000
set_option maxHeartbeats 4000000
/-! _law_any_test, _law_row. -/
namespace G
open PySem PySem.Spec PyProof.Rows L2
theorem lt_line {n : Nat} (h : n < 1000010) : n < sizeLine := by rw [sizeLine_eq]; omega
theorem ps_weak {X : Cx} {st : Stmt} {t tw : TS} (h : PS X st t) (w : ∀ D σ H, tw D σ H → t D σ H) : PS X st tw := ⟨fun pins s σ H D I q => h.run pins s σ H D I (w D σ H q)⟩
theorem one_nm {K : PySem.W.Frag} {H2 : Hp} {D L A : Addr} {m : Nat} {ys : List Str} (d : Deck H2 D L m) (hm : m < 10 ^ 12) (g : H2 A = some (.lst (ys.map V.str))) (na : A ∉ [D, L]) (l0 : 0 < ys.length) (l1 : ys.length ≤ 5) (hn : ∀ x ∈ ys, Nm x) {Q' : VK} (h : ∀ H' x, Kp [D, L] H2 H' → Deck H' D L (m + 1) → Nm x → Q' (.str x) H') : spOne K [.ref D, .ref A] H2 Q' E0 := by
  refine ⟨D, L, m, _, rfl, d, hm, .inl ⟨A, _, rfl, .inl ⟨SqL.of g, na⟩, by rw [List.length_map]; exact l0, by rw [List.length_map]; omega, fun H' y k' d' hy => ?_⟩⟩
  obtain ⟨x, hx, rfl⟩ := List.mem_map.mp hy
  exact h H' x k' d' (hn x hx)
/-- one of a list of data -/
theorem one_td {K : PySem.W.Frag} {H2 : Hp} {D L A : Addr} {m : Nat} {xs : List V} {ds : List PyData} (d : Deck H2 D L m) (hm : m < 10 ^ 12) (g : H2 A = some (.lst xs)) (td : TDs H2 xs ds) (na : A ∉ [D, L]) (l0 : 0 < ds.length) (l1 : ds.length ≤ 1000) {Q' : VK} (h : ∀ H' y e, Kp [D, L] H2 H' → Deck H' D L (m + 1) → TD H' y e → e ∈ ds → Q' y H') : spOne K [.ref D, .ref A] H2 Q' E0 := by
  refine ⟨D, L, m, _, rfl, d, hm, .inl ⟨A, _, rfl, .inl ⟨SqL.of g, na⟩, by rw [td.len]; exact l0, by rw [td.len]; exact l1, fun H' y k' d' hy => ?_⟩⟩
  obtain ⟨e, he, t⟩ := (TDs.ch (deck_ch d d' k') _ _ td).mem y hy
  exact h H' y e k' d' t he
def CXn (l : List (Nat × Str)) : CT := fun σ _ => ∀ q ∈ l, σ[q.1]? = some (some (.str q.2))
theorem CXn.st {l : List (Nat × Str)} : Stable (CXn l) := fun _ _ _ _ h => h
theorem CXn.v {l : List (Nat × Str)} {i : Nat} {x : Str} (h : (i, x) ∈ l) : ∀ σ H, CXn l σ H → ∃ v, σ[i]? = some (some v) ∧ TD H v (.str x) := fun σ H c => ⟨_, c _ h, .str x⟩
end G

set_option Elab.async false
set_option linter.all false
set_option maxRecDepth 100000
set_option maxHeartbeats 4000000
/-! _law_names, _law_words: short texts of Unicode's signs. -/
namespace G
open PySem PySem.Spec PyProof.Rows L2
theorem sum_le' (ys : List Str) (h : ∀ y ∈ ys, y.length ≤ 1) : (ys.map (·.length)).sum ≤ ys.length := by
  have z := sum_le ys 1 h
  omega
theorem num_len : ∀ k : Nat, k < 100 → (Str.ofString (toString (k : Int))).length ≤ 2 := by decide +kernel
/-- so many short texts, as a new list -/
def spNms (most : Int) : Sp := fun vs H Q _ => ∃ (D L : Addr) (n : Nat) (count : Int), vs = [.ref D, .int count] ∧ Deck H D L n ∧ n < 10 ^ 11 ∧ 0 ≤ count ∧ count ≤ most ∧
  ∀ H' a (ys : List Str), Kp [D, L] H H' → Deck H' D L (n + 10) → H a = none → H' a = some (.lst (ys.map V.str)) → (ys.length : Int) = count → (∀ y ∈ ys, Nm y) → Q (.ref a) H'
abbrev s__law_names : Stmt := top 27
abbrev n__law_names : List Str := ["_law_deck_here", "_law_count_here", "_law_letters", "_law_left", "_law_right", "_law_k"]
theorem sc__law_names : FnScope n__law_names ["_law_deck_here", "_law_count_here"] (defScope s__law_names) := ⟨rfl, rfl, rfl, by decide +kernel, rfl, by decide +kernel, by decide +kernel⟩
section
variable {P : Program} {w : World} {K : PySem.W.Frag} {mg : Str → Option Value} {base : Heap}
theorem ok_names {f f1 f2 : Addr} {fd fd1 fd2 : FuncData} (F : Fun K "_law_names" "_law_names" s__law_names f fd) (T : Bi mg) (z_str : mg "str" = none)
    (D1 : Df K mg "_law_draw" s__law_draw ["_law_deck_here", "_law_many"] f1 fd1) (G1 : FnOk P w K mg base CX0 1 f1 fd1 ["_law_deck_here", "_law_many"] spDraw)
    (D2 : Df K mg "_law_one" s__law_one ["_law_deck_here", "_law_items"] f2 fd2) (G2 : FnOk P w K mg base CX0 2 f2 fd2 ["_law_deck_here", "_law_items"] (spOne K)) : FnOk P w K mg base CX0 3 f fd ["_law_deck_here", "_law_count_here"] (spNms 99) := by
  refine F.ok sc__law_names (fun vs H Q E ⟨D, L, n, c, ev, _⟩ => by rw [ev]; rfl) (fun cdv A outer s H vs Q E hr ⟨D, L, n, count, ev, hD, hn, c0, c1, q⟩ => ?_)
  subst ev
  have hr1 : Room 1 _ := hr.mono (by decide)
  refine ⟨_, (pss_cons (ps_set (i := 2) sc__law_names.nd rfl (.inr rfl) pe_str)
      (pss_cons (ps_set (i := 3) sc__law_names.nd rfl (.inr rfl) (pe_join pe_str (pe_lc (own := [("_law_k", 5)]) (by rfl) sc__law_names.nd (pi_range1 (by rfl) T.z_range (pa_cons (pe_op op_add pe_int (pe_call G1 hr1 (by rfl) D1.m D1.F.kp D1.b .nil pass0 (pa_cons (pv 0) (pa_cons pe_int pa_nil)))) pa_nil)) (blkOk_by (N := n__law_names) (sc := defScope s__law_names) (by decide +kernel)) (fun _ _ _ _ _ => (pg_name (i := 5) sc__law_names.nd rfl (.inl rfl))) (fun _ _ _ _ _ => pts_nil) (fun _ _ _ _ _ => (pe_call G2 hr (by rfl) D2.m D2.F.kp D2.b .nil pass0 (pa_cons (pv 0) (pa_cons (pv 2) pa_nil)))))))
      (pss_cons (ps_set (i := 4) sc__law_names.nd rfl (.inr rfl) (pe_join pe_str (pe_lc (own := [("_law_k", 5)]) (by rfl) sc__law_names.nd (pi_range1 (by rfl) T.z_range (pa_cons (pe_call G1 hr1 (by rfl) D1.m D1.F.kp D1.b .nil pass0 (pa_cons (pv 0) (pa_cons pe_int pa_nil))) pa_nil)) (blkOk_by (N := n__law_names) (sc := defScope s__law_names) (by decide +kernel)) (fun _ _ _ _ _ => (pg_name (i := 5) sc__law_names.nd rfl (.inl rfl))) (fun _ _ _ _ _ => pts_nil) (fun _ _ _ _ _ => (pe_call G2 hr (by rfl) D2.m D2.F.kp D2.b .nil pass0 (pa_cons (pv 0) (pa_cons (pv 2) pa_nil)))))))
      (pss_one (ps_ret (pe_lc (own := [("_law_k", 5)]) (by rfl) sc__law_names.nd (pi_range1 (by rfl) T.z_range (pa_cons (pv 1) pa_nil)) (blkOk_by (N := n__law_names) (sc := defScope s__law_names) (by decide +kernel)) (fun _ _ _ _ _ => (pg_name (i := 5) sc__law_names.nd rfl (.inl rfl))) (fun _ _ _ _ _ => pts_nil) (fun _ _ _ _ _ => (pe_op op_add_str (pe_op op_add_str (pv 3) (pe_callTy call_str_int (by rfl) z_str (by decide +kernel) (pa_cons (pv 5) pa_nil))) (pv 4))))))))), ?_⟩
  have lt26 : ∀ (H2 : Hp) (m : Nat), Deck H2 D L m → m < 10 ^ 12 → ∀ (Q' : VK), (∀ H' c, Kp [D, L] H2 H' → Deck H' D L (m + 1) → OkS ⟨#[c]⟩ → Q' (.str ⟨#[c]⟩) H') → spOne K [.ref D, .str "abcdefghijklmnopqrstuvwxyz"] H2 Q' E0 := fun H2 m d hm Q' z =>
    ⟨D, L, m, _, rfl, d, hm, .inr ⟨_, rfl, by decide +kernel, by decide +kernel, fun H' c k' d' hc => z H' c k' d' (sign_ok hc)⟩⟩
  -- left
  refine ⟨⟨_, rfl⟩, .ref D, rfl, D, L, n, 3, rfl, hD, by omega, by decide, by decide, fun H1 r k1 hD1 r0 r1 => ⟨1, r, rfl, rfl, 1 + r, rfl, by omega, by omega, fun a na => ?_⟩⟩
  have na1 : a ∉ [D, L] := by simpa using hD1.neD na
  refine lc_range (lo := 0) (n := (1 + r).toNat) (GrowS D L a H1 (n + 1) 1 1) (GrowS.start hD1 na) ?_ ?_
  · rintro i H' hi g
    obtain ⟨_, _, hD', _⟩ := id g
    refine ⟨rfl, .ref D, rfl, .str "abcdefghijklmnopqrstuvwxyz", rfl, lt26 H' _ hD' (by omega) _ fun H4 c k4 d4 oc => ?_⟩
    exact g.step (by omega) (deck_ch hD' d4 k4) d4 na1 (Nat.le_refl _) oc
  · rintro H2 ⟨ys, k2, hD2, ha, hl, hy'⟩
    have hy : ∀ y ∈ ys, y.length ≤ 1 := fun y h => (hy' y h).1
    have oleft := join0_ok ys fun y h => (hy' y h).2
    have hleft := join_len ys 1 hy
    refine ⟨"", a, ys, rfl, rfl, .inl (SqL.of ha), ?_, ?_⟩
    · have z := sum_le ys 1 hy
      have e0 : ("" : Str).length = 0 := rfl
      rw [e0, Nat.mul_zero]
      omega
    obtain ⟨left, eleft⟩ : ∃ x, x = Txt.join "" ys := ⟨_, rfl⟩
    rw [← eleft] at hleft oleft ⊢
    have kk2 : Kp [D, L] H H2 := k1.trans (k2.kp.fresh na)
    -- right
    refine ⟨⟨_, rfl⟩, .ref D, rfl, D, L, _, 3, rfl, hD2, by omega, by decide, by decide, fun H3 r3 k3 hD3 r30 r31 => ⟨r3, rfl, by omega, by omega, fun a3 na3 => ?_⟩⟩
    have na31 : a3 ∉ [D, L] := by simpa using hD3.neD na3
    refine lc_range (lo := 0) (n := r3.toNat) (GrowS D L a3 H3 (n + 5) 1 1) (GrowS.start (hD3.mono (by omega)) na3) ?_ ?_
    · rintro i H' hi g
      obtain ⟨_, _, hD', _⟩ := id g
      refine ⟨rfl, .ref D, rfl, .str "abcdefghijklmnopqrstuvwxyz", rfl, lt26 H' _ hD' (by omega) _ fun H4 c k4 d4 oc => ?_⟩
      exact g.step (by omega) (deck_ch hD' d4 k4) d4 na31 (Nat.le_refl _) oc
    · rintro H4 ⟨zs, k4, hD4, ha4, hl4, hy4'⟩
      have hy4 : ∀ y ∈ zs, y.length ≤ 1 := fun y h => (hy4' y h).1
      have oright := join0_ok zs fun y h => (hy4' y h).2
      have hright := join_len zs 1 hy4
      refine ⟨"", a3, zs, rfl, rfl, .inl (SqL.of ha4), ?_, ?_⟩
      · have z := sum_le zs 1 hy4
        have e0 : ("" : Str).length = 0 := rfl
        rw [e0, Nat.mul_zero]
        omega
      obtain ⟨right, eright⟩ : ∃ x, x = Txt.join "" zs := ⟨_, rfl⟩
      rw [← eright] at hright oright ⊢
      have kk4 : Kp [D, L] H H4 := kk2.trans (k3.trans (k4.kp.fresh na3))
      -- the list
      refine ⟨_, rfl, count, rfl, by omega, by omega, fun a5 na5 => ?_⟩
      have na51 : a5 ∉ [D, L] := by simpa using hD4.neD na5
      refine lc_range (lo := 0) (n := count.toNat) (GrowS D L a5 H4 (n + 10) 0 8) (GrowS.start (hD4.mono (by omega)) na5) ?_ ?_
      · rintro i H' hi g
        obtain ⟨_, _, hD', _⟩ := id g
        have e2 : (0 : Int) + (i : Int) = (i : Int) := by omega
        have hnum := num_len i (by omega)
        refine ⟨rfl, .str left, rfl, .int (0 + i), rfl, (0 + i : Int), rfl, ?_, _, _, rfl, rfl, ?_, .str right, rfl, _, _, rfl, rfl, ?_, ?_⟩
        · rw [e2]
          exact Nat.lt_of_le_of_lt (Nat.log2_le_self _) (by omega)
        · rw [e2]
          exact line1000 (by omega)
        · rw [e2, strLen_append]
          exact line1000 (by omega)
        · rw [e2]
          exact g.step (by omega) (Ch.refl _ _) hD' na51 (by rw [strLen_append, strLen_append]; omega) ((oleft.app (OkS.of _)).app oright)
      · rintro H6 ⟨us, k6, hD6, ha6, hl6, hy6⟩
        exact q H6 a5 us (kk4.trans (k6.kp.fresh na5)) (hD6.mono (by omega)) (kk4.none_of na5 na51) ha6 (by omega) hy6
end
abbrev s__law_words : Stmt := top 28
abbrev n__law_words : List Str := ["_law_deck_here", "_law_count_here", "_law_signs", "_law_left", "_law_right", "_law_k"]
theorem sc__law_words : FnScope n__law_words ["_law_deck_here", "_law_count_here"] (defScope s__law_words) := ⟨rfl, rfl, rfl, by decide +kernel, rfl, by decide +kernel, by decide +kernel⟩
section
variable {P : Program} {w : World} {K : PySem.W.Frag} {mg : Str → Option Value} {base : Heap}
theorem ok_words {f f1 f2 : Addr} {fd fd1 fd2 : FuncData} (F : Fun K "_law_words" "_law_words" s__law_words f fd) (T : Bi mg)
    (D1 : Df K mg "_law_draw" s__law_draw ["_law_deck_here", "_law_many"] f1 fd1) (G1 : FnOk P w K mg base CX0 1 f1 fd1 ["_law_deck_here", "_law_many"] spDraw)
    (D2 : Df K mg "_law_one" s__law_one ["_law_deck_here", "_law_items"] f2 fd2) (G2 : FnOk P w K mg base CX0 2 f2 fd2 ["_law_deck_here", "_law_items"] (spOne K)) : FnOk P w K mg base CX0 3 f fd ["_law_deck_here", "_law_count_here"] (spNms 4) := by
  refine F.ok sc__law_words (fun vs H Q E h => ?_) (fun cdv A outer s H vs Q E hr h => ?_)
  · obtain ⟨D, L, n, c, rfl, _⟩ := h
    rfl
  obtain ⟨D, L, n, count, rfl, hD, hn, c0, c1, q⟩ := h
  have hr1 : Room 1 _ := hr.mono (by decide)
  refine ⟨_, (pss_cons (ps_set (i := 2) sc__law_words.nd rfl (.inr rfl) pe_str)
      (pss_cons (ps_set (i := 3) sc__law_words.nd rfl (.inr rfl) (pe_join pe_str (pe_lc (own := [("_law_k", 5)]) (by rfl) sc__law_words.nd (pi_range1 (by rfl) T.z_range (pa_cons (pe_call G1 hr1 (by rfl) D1.m D1.F.kp D1.b .nil pass0 (pa_cons (pv 0) (pa_cons pe_int pa_nil))) pa_nil)) (blkOk_by (N := n__law_words) (sc := defScope s__law_words) (by decide +kernel)) (fun _ _ _ _ _ => (pg_name (i := 5) sc__law_words.nd rfl (.inl rfl))) (fun _ _ _ _ _ => pts_nil) (fun _ _ _ _ _ => (pe_call G2 hr (by rfl) D2.m D2.F.kp D2.b .nil pass0 (pa_cons (pv 0) (pa_cons (pv 2) pa_nil)))))))
      (pss_cons (ps_set (i := 4) sc__law_words.nd rfl (.inr rfl) (pe_join pe_str (pe_lc (own := [("_law_k", 5)]) (by rfl) sc__law_words.nd (pi_range1 (by rfl) T.z_range (pa_cons (pe_call G1 hr1 (by rfl) D1.m D1.F.kp D1.b .nil pass0 (pa_cons (pv 0) (pa_cons pe_int pa_nil))) pa_nil)) (blkOk_by (N := n__law_words) (sc := defScope s__law_words) (by decide +kernel)) (fun _ _ _ _ _ => (pg_name (i := 5) sc__law_words.nd rfl (.inl rfl))) (fun _ _ _ _ _ => pts_nil) (fun _ _ _ _ _ => (pe_call G2 hr (by rfl) D2.m D2.F.kp D2.b .nil pass0 (pa_cons (pv 0) (pa_cons (pv 2) pa_nil)))))))
      (pss_one (ps_ret (pe_lc (own := [("_law_k", 5)]) (by rfl) sc__law_words.nd (pi_range1 (by rfl) T.z_range (pa_cons (pv 1) pa_nil)) (blkOk_by (N := n__law_words) (sc := defScope s__law_words) (by decide +kernel)) (fun _ _ _ _ _ => (pg_name (i := 5) sc__law_words.nd rfl (.inl rfl))) (fun _ _ _ _ _ => pts_nil) (fun _ _ _ _ _ => (pe_op op_add_str (pe_op op_add_str (pv 3) (pe_ix ix_str pe_str (pv 5) (fun _ _ => rfl))) (pv 4))))))))), ?_⟩
  have lt36 : ∀ (H2 : Hp) (m : Nat), Deck H2 D L m → m < 10 ^ 12 → ∀ (Q' : VK), (∀ H' c, Kp [D, L] H2 H' → Deck H' D L (m + 1) → OkS ⟨#[c]⟩ → Q' (.str ⟨#[c]⟩) H') → spOne K [.ref D, .str "0123456789abcdefghijklmnopqrstuvwxyz"] H2 Q' E0 := fun H2 m d hm Q' z =>
    ⟨D, L, m, _, rfl, d, hm, .inr ⟨_, rfl, by decide +kernel, by decide +kernel, fun H' c k' d' hc => z H' c k' d' (sign_ok hc)⟩⟩
  -- left
  refine ⟨⟨_, rfl⟩, .ref D, rfl, D, L, n, 4, rfl, hD, by omega, by decide, by decide, fun H1 r k1 hD1 r0 r1 => ⟨r, rfl, by omega, by omega, fun a na => ?_⟩⟩
  have na1 : a ∉ [D, L] := by simpa using hD1.neD na
  refine lc_range (lo := 0) (n := r.toNat) (GrowS D L a H1 (n + 1) 1 1) (GrowS.start hD1 na) ?_ ?_
  · rintro i H' hi g
    obtain ⟨_, _, hD', _⟩ := id g
    refine ⟨rfl, .ref D, rfl, .str "0123456789abcdefghijklmnopqrstuvwxyz", rfl, lt36 H' _ hD' (by omega) _ fun H4 c k4 d4 oc => ?_⟩
    exact g.step (by omega) (deck_ch hD' d4 k4) d4 na1 (Nat.le_refl _) oc
  · rintro H2 ⟨ys, k2, hD2, ha, hl, hy'⟩
    have hy : ∀ y ∈ ys, y.length ≤ 1 := fun y h => (hy' y h).1
    have oleft := join0_ok ys fun y h => (hy' y h).2
    have hleft := join_len ys 1 hy
    refine ⟨"", a, ys, rfl, rfl, .inl (SqL.of ha), ?_, ?_⟩
    · have z := sum_le ys 1 hy
      have e0 : ("" : Str).length = 0 := rfl
      rw [e0, Nat.mul_zero]
      omega
    obtain ⟨left, eleft⟩ : ∃ x, x = Txt.join "" ys := ⟨_, rfl⟩
    rw [← eleft] at hleft oleft ⊢
    have kk2 : Kp [D, L] H H2 := k1.trans (k2.kp.fresh na)
    -- right
    refine ⟨⟨_, rfl⟩, .ref D, rfl, D, L, _, 4, rfl, hD2, by omega, by decide, by decide, fun H3 r3 k3 hD3 r30 r31 => ⟨r3, rfl, by omega, by omega, fun a3 na3 => ?_⟩⟩
    have na31 : a3 ∉ [D, L] := by simpa using hD3.neD na3
    refine lc_range (lo := 0) (n := r3.toNat) (GrowS D L a3 H3 (n + 5) 1 1) (GrowS.start (hD3.mono (by omega)) na3) ?_ ?_
    · rintro i H' hi g
      obtain ⟨_, _, hD', _⟩ := id g
      refine ⟨rfl, .ref D, rfl, .str "0123456789abcdefghijklmnopqrstuvwxyz", rfl, lt36 H' _ hD' (by omega) _ fun H4 c k4 d4 oc => ?_⟩
      exact g.step (by omega) (deck_ch hD' d4 k4) d4 na31 (Nat.le_refl _) oc
    · rintro H4 ⟨zs, k4, hD4, ha4, hl4, hy4'⟩
      have hy4 : ∀ y ∈ zs, y.length ≤ 1 := fun y h => (hy4' y h).1
      have oright := join0_ok zs fun y h => (hy4' y h).2
      have hright := join_len zs 1 hy4
      refine ⟨"", a3, zs, rfl, rfl, .inl (SqL.of ha4), ?_, ?_⟩
      · have z := sum_le zs 1 hy4
        have e0 : ("" : Str).length = 0 := rfl
        rw [e0, Nat.mul_zero]
        omega
      obtain ⟨right, eright⟩ : ∃ x, x = Txt.join "" zs := ⟨_, rfl⟩
      rw [← eright] at hright oright ⊢
      have kk4 : Kp [D, L] H H4 := kk2.trans (k3.trans (k4.kp.fresh na3))
      -- the list
      refine ⟨_, rfl, count, rfl, by omega, by omega, fun a5 na5 => ?_⟩
      have na51 : a5 ∉ [D, L] := by simpa using hD4.neD na5
      refine lc_range (lo := 0) (n := count.toNat) (GrowS D L a5 H4 (n + 10) 0 8) (GrowS.start (hD4.mono (by omega)) na5) ?_ ?_
      · rintro i H' hi g
        obtain ⟨_, _, hD', _⟩ := id g
        have e2 : (0 : Int) + (i : Int) = (i : Int) := by omega
        have h4 : i < ("qvxz" : Str).cps.toList.length := Nat.lt_of_lt_of_le (by omega : i < 4) (by decide +kernel)
        refine ⟨rfl, .str left, rfl, .int (0 + i), rfl, "qvxz", (i : Int), ("qvxz" : Str).cps.toList[i], rfl, by rw [e2], by decide +kernel, atI_nat (List.getElem?_eq_getElem h4), _, _, rfl, rfl, ?_, .str right, rfl, _, _, rfl, rfl, ?_, ?_⟩
        · exact line1000 (by show left.length + 1 ≤ 1000; omega)
        · rw [strLen_append]
          exact line1000 (by show left.length + 1 + right.length ≤ 1000; omega)
        · exact g.step (by omega) (Ch.refl _ _) hD' na51 (by rw [strLen_append, strLen_append]; show left.length + 1 + right.length ≤ 8; omega) ((oleft.app (sign_ok (s := "qvxz") (List.getElem_mem h4))).app oright)
      · rintro H6 ⟨us, k6, hD6, ha6, hl6, hy6⟩
        exact q H6 a5 us (kk4.trans (k6.kp.fresh na5)) (hD6.mono (by omega)) (kk4.none_of na5 na51) ha6 (by omega) hy6
end
end G

set_option Elab.async false
set_option linter.all false
set_option maxRecDepth 100000
set_option maxHeartbeats 4000000
/-! _law_test of the programs' generator. -/
namespace G
open PySem PySem.Spec PyProof.Rows L2
/-- a list of short texts, away from S -/
structure Txs (H : Hp) (S : List Addr) (a : Addr) (most : Nat) : Prop where
  ex : ∃ ys : List Str, H a = some (.lst (ys.map V.str)) ∧ (∀ y ∈ ys, Nm y) ∧ 0 < ys.length ∧ ys.length ≤ most
  n : a ∉ S
theorem Txs.kp {H H' : Hp} {S : List Addr} {a : Addr} {m : Nat} (t : Txs H S a m) (k : Kp S H H') : Txs H' S a m :=
  let ⟨ys, h, r⟩ := t.ex
  ⟨⟨ys, k _ _ t.n h, r⟩, t.n⟩
theorem Txs.sub {H : Hp} {S T : List Addr} {a : Addr} {m : Nat} (t : Txs H S a m) (h : ∀ b ∈ T, b ∈ S ∨ H b = none) : Txs H T a m := by
  obtain ⟨ys, g, r⟩ := t.ex
  exact ⟨⟨ys, g, r⟩, fun z => (h a z).elim t.n fun e => by rw [g] at e; cases e⟩
theorem Txs.at {H H' : Hp} {S : List Addr} {a : Addr} {m : Nat} (t : Txs H S a m) (e : ∀ o, H a = some o → H' a = some o) : Txs H' S a m :=
  let ⟨ys, h, r⟩ := t.ex
  ⟨⟨ys, e _ h, r⟩, t.n⟩
/-- names, fields, words, the number of givens -/
structure PoolQ (H : Hp) (S : List Addr) (a : Addr) (g : Int) : Prop where
  ex : ∃ N F Wd : Addr, H a = some (.lst [.ref N, .ref F, .ref Wd, .int g]) ∧ Txs H S N 20 ∧ Txs H S F 20 ∧ Txs H S Wd 20
  n : a ∉ S
  g : 0 ≤ g ∧ g < 4
theorem PoolQ.kp {H H' : Hp} {S : List Addr} {a : Addr} {g : Int} (p : PoolQ H S a g) (k : Kp S H H') : PoolQ H' S a g :=
  let ⟨N, F, Wd, h, t1, t2, t3⟩ := p.ex
  ⟨⟨N, F, Wd, k _ _ p.n h, t1.kp k, t2.kp k, t3.kp k⟩, p.n, p.g⟩
theorem PoolQ.sub {H : Hp} {S T : List Addr} {a : Addr} {g : Int} (p : PoolQ H S a g) (h : ∀ b ∈ T, b ∈ S ∨ H b = none) : PoolQ H T a g := by
  obtain ⟨N, F, Wd, e, t1, t2, t3⟩ := p.ex
  exact ⟨⟨N, F, Wd, e, t1.sub h, t2.sub h, t3.sub h⟩, (fun z => (h a z).elim p.n fun q => by rw [e] at q; cases q), p.g⟩
theorem one_tx {K : PySem.W.Frag} {H2 : Hp} {D L A : Addr} {m : Nat} {S : List Addr} {b : Nat} (d : Deck H2 D L m) (hm : m < 10 ^ 12) (t : Txs H2 S A b) (hb : b ≤ 1000) (hS : D ∈ S ∧ L ∈ S) {Q' : VK} (h : ∀ H' x, Kp [D, L] H2 H' → Deck H' D L (m + 1) → Nm x → Q' (.str x) H') : spOne K [.ref D, .ref A] H2 Q' E0 := by
  obtain ⟨ys, g, hn, l0, l1⟩ := t.ex
  have na : A ∉ [D, L] := fun z => t.n (by
    simp only [List.mem_cons, List.not_mem_nil, or_false] at z
    rcases z with rfl | rfl
    · exact hS.1
    · exact hS.2)
  refine ⟨D, L, m, _, rfl, d, hm, .inl ⟨A, _, rfl, .inl ⟨SqL.of g, na⟩, by rw [List.length_map]; exact l0, by rw [List.length_map]; omega, fun H' y k' d' hy => ?_⟩⟩
  obtain ⟨x, hx, rfl⟩ := List.mem_map.mp hy
  exact h H' x k' d' (hn x hx)
theorem kp2 {S : List Addr} {D L : Addr} {H H' : Hp} (hS : D ∈ S ∧ L ∈ S) (k : Kp [D, L] H H') : Kp S H H' := k.mono fun b hb => by
  simp only [List.mem_cons, List.not_mem_nil, or_false] at hb
  rcases hb with rfl | rfl
  · exact hS.1
  · exact hS.2
section
variable {P : Program} {w : World} {K : PySem.W.Frag} {mg : Str → Option Value} {base : Heap}
abbrev s__law_test : Stmt := top 29
abbrev n__law_test : List Str := ["_law_deck_here", "_law_pool", "_law_olds", "_law_way", "_law_x", "_law_test_here", "_law_k"]
theorem sc__law_test : FnScope n__law_test ["_law_deck_here", "_law_pool", "_law_olds"] (defScope s__law_test) := ⟨rfl, rfl, rfl, by decide +kernel, rfl, by decide +kernel, by decide +kernel⟩
def twT : TS := fun Dn σ H => ∃ (D L a O : Addr) (S : List Addr) (n : Nat) (g way : Int) (x : Str) (v0 : V) (t0 : Tst) (x6 : Option V), σ = [some (.ref D), some (.ref a), some (.ref O), some (.int way), some (.str x), some v0, x6] ∧
  Deck H D L n ∧ n < 10 ^ 11 + 100 ∧ PoolQ H S a g ∧ (D ∈ S ∧ L ∈ S) ∧ Txs H S O 100 ∧ Nm x ∧ TD H v0 t0.data ∧ t0.nm ∧ t0.depth = 0 ∧
  ∀ (H' : Hp) (v : V) (t : Tst), Kp [D, L] H H' → Deck H' D L (n + 1) → TD H' v t.data → t.nm → t.depth = 0 → Dn.nx [some (.ref D), some (.ref a), some (.ref O), some (.int way), some (.str x), some v, x6] H'
def spTestQ : Sp := fun vs H Q _ => ∃ (D L a O : Addr) (S : List Addr) (n : Nat) (g : Int), vs = [.ref D, .ref a, .ref O] ∧ Deck H D L n ∧ n < 10 ^ 11 ∧ PoolQ H S a g ∧ (D ∈ S ∧ L ∈ S) ∧ Txs H S O 100 ∧ ∀ (H' : Hp) (v : V) (t : Tst), Kp [D, L] H H' → Deck H' D L (n + 10) → TD H' v t.data → t.ok → Q v H'
theorem ok_test {f f1 f2 : Addr} {fd fd1 fd2 : FuncData} (F : Fun K "_law_test" "_law_test" s__law_test f fd) (T : Bi mg)
    (D1 : Df K mg "_law_draw" s__law_draw ["_law_deck_here", "_law_many"] f1 fd1) (G1 : FnOk P w K mg base CX0 1 f1 fd1 ["_law_deck_here", "_law_many"] spDraw)
    (D2 : Df K mg "_law_one" s__law_one ["_law_deck_here", "_law_items"] f2 fd2) (G2 : FnOk P w K mg base CX0 2 f2 fd2 ["_law_deck_here", "_law_items"] (spOne K)) : FnOk P w K mg base CX0 3 f fd ["_law_deck_here", "_law_pool", "_law_olds"] spTestQ := by
  refine F.ok sc__law_test (fun vs H Q E ⟨D, L, a, O, S, n, g, ev, _⟩ => by rw [ev]; rfl) (fun cdv A outer s H vs Q E hr ⟨D, L, a, O, S, n, g, ev, hD, hn, hp, hS, hO, q⟩ => ?_)
  subst ev
  have hr1 : Room 1 _ := hr.mono (by decide)
  refine ⟨_, (pss_cons (ps_par (i := 3) (j := 4) (by rfl) sc__law_test.nd rfl rfl (by decide) rfl rfl (pa_cons (pe_call G1 hr1 (by rfl) D1.m D1.F.kp D1.b .nil pass0 (pa_cons (pv 0) (pa_cons pe_int pa_nil))) (pa_cons (pe_call G2 hr (by rfl) D2.m D2.F.kp D2.b .nil pass0 (pa_cons (pv 0) (pa_cons (pv 2) pa_nil))) pa_nil)) (by rfl))
      (pss_cons (ps_set (i := 5) sc__law_test.nd rfl (.inl rfl) (pe_tup (pa_cons pe_str (pa_cons (pv 4) (pa_cons (pe_call G2 hr (by rfl) D2.m D2.F.kp D2.b .nil pass0 (pa_cons (pv 0) (pa_cons (pe_ix ix_list (pv 1) pe_int (fun _ _ => rfl)) pa_nil))) pa_nil)))))
      (pss_cons (ps_weak (tw := twT) (ps_if (PW.pt (pw_and (pt_cmpR op_eq (pv 3) pe_int (nomark _)) (pw_and1 (pt_cmpR op_gt (pe_ix ix_list (pv 1) pe_int (fun _ _ => rfl)) pe_int (nomark _)))))
      (pss_one (ps_set (i := 5) sc__law_test.nd rfl (.inl rfl) (pe_tup (pa_cons pe_str (pa_cons (pe_call G1 hr1 (by rfl) D1.m D1.F.kp D1.b .nil pass0 (pa_cons (pv 0) (pa_cons (pe_ix ix_list (pv 1) pe_int (fun _ _ => rfl)) pa_nil))) pa_nil)))))
      (pss_one (ps_weak (tw := twT) (ps_if (pt_cmpR op_lt (pv 3) pe_int (nomark _))
      (pss_one (ps_set (i := 5) sc__law_test.nd rfl (.inl rfl) (pe_tup (pa_cons pe_str (pa_cons (pe_call G2 hr (by rfl) D2.m D2.F.kp D2.b .nil pass0 (pa_cons (pv 0) (pa_cons (pe_ix ix_list (pv 1) pe_int (fun _ _ => rfl)) pa_nil))) pa_nil)))))
      (pss_one (ps_weak (tw := twT) (ps_if (pt_cmpR op_eq (pv 3) pe_int (nomark _))
      (pss_one (ps_set (i := 5) sc__law_test.nd rfl (.inl rfl) (pe_tup (pa_cons pe_str (pa_cons (pv 4) (pa_cons (pe_call G2 hr (by rfl) D2.m D2.F.kp D2.b .nil pass0 (pa_cons (pv 0) (pa_cons (pv 2) pa_nil))) pa_nil))))))
      (pss_one (ps_weak (tw := twT) (ps_if (pt_cmpR op_lt (pv 3) pe_int (nomark _))
      (pss_one (ps_set (i := 5) sc__law_test.nd rfl (.inl rfl) (pe_tup (pa_cons pe_str (pa_cons (pe_call G2 hr (by rfl) D2.m D2.F.kp D2.b .nil pass0 (pa_cons (pv 0) (pa_cons (pe_ix ix_list (pv 1) pe_int (fun _ _ => rfl)) pa_nil))) pa_nil)))))
      pss_nil) (fun Dn σ H h => by
        obtain ⟨D, L, a, O, S, n, g, way, x, v0, t0, x6, rfl, hD, hn, hp, hS, hO, hx, td, tn, t0d, q⟩ := id h
        obtain ⟨N, F, Wd, ga, tN, tF, tW⟩ := hp.ex
        refine ⟨_, rfl, _, _, rfl, rfl, _, rfl, ite2 (fun _ => ?_) (fun _ => q H v0 t0 (Kp.refl _ _) (hD.mono (by omega)) td tn t0d)⟩
        exact ⟨_, rfl, _, rfl, a, _, _, _, rfl, rfl, SqL.of ga, atI_nat (j := 2) rfl, one_tx hD (by omega) tW (by decide) hS fun H1 y k1 hD1 hy => ⟨line1000 (Nat.le_of_ble_eq_true rfl), fun p np => q _ _ (.wished y) (k1.trans (Kp.same (Same.up np))) (hD1.kp (Kp.same (S := []) (Same.up np)) (fun z => nomatch z) (fun z => nomatch z)) (.tup upd_same (.cons (.str _) (.cons (.str _) .nil))) hy rfl⟩⟩)))) (fun Dn σ H h => by
        obtain ⟨D, L, a, O, S, n, g, way, x, v0, t0, x6, rfl, hD, hn, hp, hS, hO, hx, td, tn, t0d, q⟩ := id h
        refine ⟨_, rfl, rfl, _, rfl, ite2 (fun _ => ?_) (fun _ => h)⟩
        exact ⟨_, rfl, _, rfl, _, rfl, one_tx hD (by omega) hO (by decide) hS fun H1 y k1 hD1 hy => ⟨line1000 (Nat.le_of_ble_eq_true rfl), fun p np => q _ _ (.same x y) (k1.trans (Kp.same (Same.up np))) (hD1.kp (Kp.same (S := []) (Same.up np)) (fun z => nomatch z) (fun z => nomatch z)) (.tup upd_same (.cons (.str _) (.cons (.str _) (.cons (.str _) .nil)))) ⟨hx, hy⟩ rfl⟩⟩)))) (fun Dn σ H h => by
        obtain ⟨D, L, a, O, S, n, g, way, x, v0, t0, x6, rfl, hD, hn, hp, hS, hO, hx, td, tn, t0d, q⟩ := id h
        obtain ⟨N, F, Wd, ga, tN, tF, tW⟩ := hp.ex
        refine ⟨_, rfl, _, _, rfl, rfl, _, rfl, ite2 (fun _ => ?_) (fun _ => h)⟩
        exact ⟨_, rfl, _, rfl, a, _, _, _, rfl, rfl, SqL.of ga, atI_nat (j := 0) rfl, one_tx hD (by omega) tN (by decide) hS fun H1 y k1 hD1 hy => ⟨line1000 (Nat.le_of_ble_eq_true rfl), fun p np => q _ _ (.set y) (k1.trans (Kp.same (Same.up np))) (hD1.kp (Kp.same (S := []) (Same.up np)) (fun z => nomatch z) (fun z => nomatch z)) (.tup upd_same (.cons (.str _) (.cons (.str _) .nil))) hy rfl⟩⟩)))) (fun Dn σ H h => by
        obtain ⟨D, L, a, O, S, n, g, way, x, v0, t0, x6, rfl, hD, hn, hp, hS, hO, hx, td, tn, t0d, q⟩ := id h
        obtain ⟨N, F, Wd, ga, tN, tF, tW⟩ := hp.ex
        have hg := hp.g
        refine ⟨_, rfl, rfl, _, rfl, ite2 (fun _ => ?_) (fun _ => h)⟩
        refine ⟨_, rfl, a, _, _, _, rfl, rfl, SqL.of ga, atI_nat (j := 3) rfl, _, _, rfl, rfl, _, rfl, ite2 (fun hc => ?_) (fun _ => h)⟩
        have hc : 0 < g := of_decide_eq_true hc
        refine ⟨_, rfl, _, rfl, a, _, _, _, rfl, rfl, SqL.of ga, atI_nat (j := 3) rfl, D, L, n, g, rfl, hD, by omega, by omega, by omega, fun H1 r k1 hD1 r0 r1 => ⟨line1000 (Nat.le_of_ble_eq_true rfl), fun p np => q _ _ (.given r.toNat) (k1.trans (Kp.same (Same.up np))) (hD1.kp (Kp.same (S := []) (Same.up np)) (fun z => nomatch z) (fun z => nomatch z)) (.tup upd_same (.cons (.str _) (.cons ?_ .nil))) ?_ rfl⟩⟩
        · rw [show V.int r = V.int ((r.toNat : Nat) : Int) by rw [Int.toNat_of_nonneg r0]]
          exact .int _
        · show r.toNat < 4
          omega))
      (pss_cons (ps_for PassesOwn.never rfl (pi_range1 (by rfl) T.z_range (pa_cons (pe_call G2 hr (by rfl) D2.m D2.F.kp D2.b .nil pass0 (pa_cons (pv 0) (pa_cons (pe_lst (pa_cons pe_int (pa_cons pe_int (pa_cons pe_int (pa_cons pe_int (pa_cons pe_int (pa_cons pe_int pa_nil))))))) pa_nil))) pa_nil)) (pg_name (i := 6) sc__law_test.nd rfl (.inl rfl))
      (pss_one (ps_set (i := 5) sc__law_test.nd rfl (.inl rfl) (pe_tup (pa_cons pe_str (pa_cons (pv 5) pa_nil))))))
      (pss_one (ps_ret (pv 5))))))), ?_⟩
  obtain ⟨N, F, Wd, ga, tN, tF, tW⟩ := hp.ex
  refine ⟨.ref D, rfl, D, L, n, 9, rfl, hD, by omega, by decide, by decide, fun H1 way k1 hD1 w0 w1 => ?_⟩
  have kS1 := kp2 hS k1
  refine ⟨.ref D, rfl, .ref O, rfl, one_tx hD1 (by omega) (hO.kp kS1) (by decide) hS fun H2 x k2 hD2 hx => ?_⟩
  have k02 := k1.trans k2
  have kS2 := kp2 hS k02
  refine ⟨_, _, rfl, _, rfl, .ref D, rfl, .ref a, rfl, a, _, _, _, rfl, rfl, SqL.of (kS2 _ _ hp.n ga), atI_nat (j := 1) rfl, one_tx hD2 (by omega) (tF.kp kS2) (by decide) hS fun H3 fl k3 hD3 hf => ⟨line1000 (Nat.le_of_ble_eq_true rfl), fun p3 np3 => ?_⟩⟩
  have s4 := Same.up (o := HO.tup [V.str "full", V.str x, V.str fl]) np3
  have k04 : Kp [D, L] H _ := k02.trans (k3.trans (Kp.same s4))
  have hD4 := hD3.kp (Kp.same (S := []) s4) (fun z => nomatch z) (fun z => nomatch z)
  have kS4 := kp2 hS k04
  refine ⟨D, L, a, O, S, n + 3, g, way, x, _, .full x fl, none, rfl, hD4, by omega, hp.kp kS4, hS, hO.kp kS4, hx, .tup upd_same (.cons (.str _) (.cons (.str _) (.cons (.str _) .nil))), ⟨hx, hf⟩, rfl, fun H5 v t k5 hD5 tdv tn t0 => ?_⟩
  have k05 := k04.trans k5
  refine ⟨.ref D, rfl, line1000 (Nat.le_of_ble_eq_true rfl), fun l nl => ?_⟩
  have hl : l ∉ [D, L] := by simpa using hD5.neD nl
  have s7 := Same.up (o := HO.lst [V.int 0, V.int 0, V.int 0, V.int 1, V.int 2, V.int 3]) nl
  have hD7 := hD5.kp (Kp.same (S := []) s7) (fun z => nomatch z) (fun z => nomatch z)
  refine ⟨D, L, _, .ref l, rfl, hD7, by omega, .inl ⟨l, _, rfl, .inl ⟨SqL.of upd_same, hl⟩, Nat.le_of_ble_eq_true rfl, Nat.le_of_ble_eq_true rfl, fun H8 y8 k8 hD8 hy8 => ?_⟩⟩
  obtain ⟨m, rfl, m0, m3⟩ : ∃ m : Int, y8 = .int m ∧ 0 ≤ m ∧ m ≤ 3 := by
    simp only [List.mem_cons, List.not_mem_nil, or_false] at hy8
    rcases hy8 with rfl | rfl | rfl | rfl | rfl | rfl
    · exact ⟨0, rfl, by decide, by decide⟩
    · exact ⟨0, rfl, by decide, by decide⟩
    · exact ⟨0, rfl, by decide, by decide⟩
    · exact ⟨1, rfl, by decide, by decide⟩
    · exact ⟨2, rfl, by decide, by decide⟩
    · exact ⟨3, rfl, by decide, by decide⟩
  have tdv8 := TD.ch ((Ch.same s7).trans (deck_ch hD7 hD8 k8)) _ _ tdv
  have k08 : Kp [D, L] H H8 := k05.trans ((Kp.same s7).trans k8)
  refine ⟨m, rfl, by omega, by omega, for_range (lo := 0) (n := m.toNat) (fun i σ H' => Same H8 H' ∧ ∃ (v : V) (t : Tst) (x7 : Option V), TD H' v t.data ∧ t.nm ∧ t.depth ≤ i ∧ σ = [some (.ref D), some (.ref a), some (.ref O), some (.int way), some (.str x), some v, x7])
    ⟨Same.refl _, v, t, _, tdv8, tn, by omega, rfl⟩ ?_ ?_⟩
  · rintro i σ H' hi ⟨s9, v', t', x7, td', tn', td0, rfl⟩
    refine ⟨_, rfl, line1000 (Nat.le_of_ble_eq_true rfl), fun p np => ⟨Same.trans s9 (Same.up np), _, .not t', _, .tup upd_same (.cons (.str _) (.cons (TD.ch (Ch.same (S := []) (Same.up np)) _ _ td') .nil)), tn', by show t'.depth + 1 ≤ i + 1; omega, rfl⟩⟩
  · rintro σ H' ⟨s9, v', t', x7, td', tn', td0, rfl⟩
    exact ⟨_, rfl, q H' v' t' (k08.trans (Kp.same s9)) ((hD8.kp (Kp.same (S := []) s9) (fun z => nomatch z) (fun z => nomatch z)).mono (by omega)) td' ⟨tn', by omega⟩⟩
end
end G

set_option Elab.async false
set_option linter.all false
set_option maxRecDepth 100000
set_option maxHeartbeats 4000000
/-! _law_plain of the programs' generator. -/
namespace G
open PySem PySem.Spec PyProof.Rows L2
/-! ### the dict of the names that are held -/
abbrev hK (p : Str × Bool) : Key × V := (Sum.inr p.1, V.bl p.2)
structure HeldQ (H : Hp) (h : Addr) (ys : List Str) : Prop where
  ex : ∃ kvs : List (Str × Bool), H h = some (.dK (kvs.map hK)) ∧ (kvs.map (·.1)).Nodup ∧ ∀ p ∈ kvs, p.1 ∈ ys
theorem nodup_le : ∀ {l m : List Str}, l.Nodup → (∀ x ∈ l, x ∈ m) → l.length ≤ m.length
  | [], _, _, _ => Nat.zero_le _
  | x :: r, m, nd, h => by
    have hx : x ∈ m := h x (List.mem_cons_self ..)
    have hl := List.length_erase_of_mem hx
    have h0 : 0 < m.length := List.length_pos_of_mem hx
    have hr : ∀ y ∈ r, y ∈ m.erase x := fun y hy => by
      have ne : y ≠ x := fun z => (List.nodup_cons.mp nd).1 (z ▸ hy)
      exact (List.mem_erase_of_ne ne).mpr (h y (List.mem_cons_of_mem _ hy))
    have := nodup_le (List.nodup_cons.mp nd).2 hr
    rw [List.length_cons]
    omega
theorem valV_hK : ∀ (kvs : List (Str × Bool)) (k : Str), k ∈ kvs.map (·.1) → ∃ b, valV (kvs.map hK) (Sum.inr k : Key) = some (V.bl b)
  | [], k, h => nomatch h
  | p :: r, k, h => by
    by_cases e : p.1 = k
    · exact ⟨p.2, by rw [List.map_cons]; exact valV_pos (by rw [← e])⟩
    · have h2 : k ∈ r.map (·.1) := by
        rcases List.mem_cons.mp h with h | h
        · exact absurd h.symm e
        · exact h
      obtain ⟨b, hb⟩ := valV_hK r k h2
      exact ⟨b, by rw [List.map_cons, valV_neg (fun z => e (by injection z))]; exact hb⟩
def putH (kvs : List (Str × Bool)) (x : Str) (b : Bool) : List (Str × Bool) := if (kvs.any fun kv => decide (kv.1 = x)) = true then kvs.map (fun kv => if kv.1 = x then (kv.1, b) else kv) else kvs ++ [(x, b)]
theorem putK_hK (kvs : List (Str × Bool)) (x : Str) (b : Bool) : putK (kvs.map hK) (Sum.inr x : Key) (V.bl b) = (putH kvs x b).map hK := by
  have ea : ((kvs.map hK).any fun kv => decide (kv.1 = (Sum.inr x : Key))) = kvs.any fun kv => decide (kv.1 = x) := by
    rw [List.any_map]
    congr 1
    funext kv
    show decide ((Sum.inr kv.1 : Key) = Sum.inr x) = decide (kv.1 = x)
    by_cases e : kv.1 = x
    · rw [decide_eq_true e, decide_eq_true (by rw [e])]
    · rw [decide_eq_false e, decide_eq_false (fun z => e (by injection z))]
  unfold putK putH
  rw [ea]
  split
  · rw [List.map_map, List.map_map]
    congr 1
    funext kv
    show (if (Sum.inr kv.1 : Key) = Sum.inr x then ((Sum.inr kv.1 : Key), V.bl b) else hK kv) = hK (if kv.1 = x then (kv.1, b) else kv)
    by_cases e : kv.1 = x
    · rw [if_pos e, if_pos (by rw [e])]
    · rw [if_neg e, if_neg (fun z => e (by injection z))]
  · rw [List.map_append]
    rfl
theorem putH_keys {kvs : List (Str × Bool)} {x : Str} {b : Bool} {ys : List Str} (nd : (kvs.map (·.1)).Nodup) (sub : ∀ p ∈ kvs, p.1 ∈ ys) (hx : x ∈ ys) : ((putH kvs x b).map (·.1)).Nodup ∧ ∀ p ∈ putH kvs x b, p.1 ∈ ys := by
  unfold putH
  split
  · rename_i h
    have e : (kvs.map fun kv => if kv.1 = x then (kv.1, b) else kv).map (·.1) = kvs.map (·.1) := by
      rw [List.map_map]
      congr 1
      funext kv
      show (if kv.1 = x then (kv.1, b) else kv).1 = kv.1
      split <;> rfl
    refine ⟨by rw [e]; exact nd, fun p hp => ?_⟩
    have : p.1 ∈ kvs.map (·.1) := by rw [← e]; exact List.mem_map_of_mem hp
    obtain ⟨q, hq, e2⟩ := List.mem_map.mp this
    rw [← e2]
    exact sub q hq
  · rename_i h
    have nx : x ∉ kvs.map (·.1) := fun z => by
      obtain ⟨q, hq, e⟩ := List.mem_map.mp z
      exact h (List.any_eq_true.mpr ⟨q, hq, decide_eq_true e⟩)
    refine ⟨?_, fun p hp => ?_⟩
    · rw [List.map_append]
      refine List.nodup_append.mpr ⟨nd, List.nodup_cons.mpr ⟨(fun z => nomatch z), List.nodup_nil⟩, fun a ha c hc z => ?_⟩
      have ec : c = x := List.mem_singleton.mp hc
      rw [z, ec] at ha
      exact nx ha
    · rcases List.mem_append.mp hp with hp | hp
      · exact sub p hp
      · rw [List.mem_singleton.mp hp]; exact hx
theorem HeldQ.at {H H' : Hp} {h : Addr} {ys : List Str} (q : HeldQ H h ys) (e : ∀ o, H h = some o → H' h = some o) : HeldQ H' h ys :=
  let ⟨kvs, g, r⟩ := q.ex
  ⟨⟨kvs, e _ g, r⟩⟩
theorem HeldQ.kp {H H' : Hp} {h : Addr} {ys : List Str} {S : List Addr} (q : HeldQ H h ys) (k : Kp S H H') (n : h ∉ S) : HeldQ H' h ys := q.at fun o => k _ _ n
theorem HeldQ.ne {H : Hp} {h D L : Addr} {ys : List Str} {n : Nat} (q : HeldQ H h ys) (d : Deck H D L n) : h ∉ [D, L] := by
  obtain ⟨kvs, g, _⟩ := q.ex
  obtain ⟨ne, m, ns, h1, h2, _⟩ := d
  intro z
  simp only [List.mem_cons, List.not_mem_nil, or_false] at z
  rcases z with rfl | rfl
  · rw [h1] at g; cases g
  · rw [h2] at g; cases g
/-- a name is stored -/
theorem HeldQ.put {H : Hp} {h : Addr} {ys : List Str} (q : HeldQ H h ys) (hl : ys.length ≤ 20) {x : Str} (hx : x ∈ ys) (b : Bool) : ∃ H', DPut H h (.str x) (.bl b) H' ∧ Ch [h] H H' ∧ HeldQ H' h ys := by
  obtain ⟨kvs, g, nd, sub⟩ := q.ex
  have hln := nodup_le nd (fun y hy => by
    obtain ⟨p, hp, e⟩ := List.mem_map.mp hy
    rw [← e]; exact sub p hp)
  rw [List.length_map] at hln
  have dp := DPut.k (k := Sum.inr x) (v := .bl b) g (by rw [List.length_map]; exact lt_line (by omega))
  rw [putK_hK] at dp
  obtain ⟨nd', sub'⟩ := putH_keys (b := b) nd sub hx
  exact ⟨_, dp, (Ch.refl _ _).put (by simp) g (fun xs z => by cases z), ⟨⟨_, upd_same, nd', sub'⟩⟩⟩
/-- the pool, its names known -/
structure PoolY (H : Hp) (S : List Addr) (a : Addr) (g : Int) (ys : List Str) : Prop where
  ex : ∃ N F Wd : Addr, H a = some (.lst [.ref N, .ref F, .ref Wd, .int g]) ∧ H N = some (.lst (ys.map V.str)) ∧ N ∉ S ∧ Txs H S F 20 ∧ Txs H S Wd 20
  n : a ∉ S
  g : 0 ≤ g ∧ g < 4
  nm : ∀ y ∈ ys, Nm y
  l : 0 < ys.length ∧ ys.length ≤ 20
theorem PoolY.toQ {H : Hp} {S : List Addr} {a : Addr} {g : Int} {ys : List Str} (p : PoolY H S a g ys) : PoolQ H S a g :=
  let ⟨N, F, Wd, h, hN, nN, t2, t3⟩ := p.ex
  ⟨⟨N, F, Wd, h, ⟨⟨ys, hN, p.nm, p.l⟩, nN⟩, t2, t3⟩, p.n, p.g⟩
theorem PoolY.kp {H H' : Hp} {S : List Addr} {a : Addr} {g : Int} {ys : List Str} (p : PoolY H S a g ys) (k : Kp S H H') : PoolY H' S a g ys :=
  let ⟨N, F, Wd, h, hN, nN, t2, t3⟩ := p.ex
  ⟨⟨N, F, Wd, k _ _ p.n h, k _ _ nN hN, nN, t2.kp k, t3.kp k⟩, p.n, p.g, p.nm, p.l⟩
theorem PoolY.sub {H : Hp} {S T : List Addr} {a : Addr} {g : Int} {ys : List Str} (p : PoolY H S a g ys) (h : ∀ b ∈ T, b ∈ S ∨ H b = none) : PoolY H T a g ys := by
  obtain ⟨N, F, Wd, e, hN, nN, t2, t3⟩ := p.ex
  exact ⟨⟨N, F, Wd, e, hN, (fun z => (h N z).elim nN fun q => by rw [hN] at q; cases q), t2.sub h, t3.sub h⟩, (fun z => (h a z).elim p.n fun q => by rw [e] at q; cases q), p.g, p.nm, p.l⟩
/-- the names that are held, in order -/
theorem lc_olds {K : PySem.W.Frag} {σ : L2.St} {k : Nat} {h p Dd : Addr} {ys : List Str} {H1 : Hp} {Qd : Hp → Prop} (hq : HeldQ H1 h ys) (hl : ys.length ≤ 20) (hnm : ∀ y ∈ ys, Nm y) {us : List Str} (gp : H1 p = some (.lst (us.map V.str)))
    (hu : ∀ kvs : List (Str × Bool), H1 h = some (.dK (kvs.map hK)) → us.Perm (kvs.map (·.1))) (nD : H1 Dd = none)
    (e1 : ∀ x, wipe ((wipe σ [k]).set k (some x)) [k] = wipe σ [k]) (e2 : ∀ x, ((wipe σ [k]).set k (some x))[2]? = some (some (.ref h))) (e3 : ∀ x, ((wipe σ [k]).set k (some x))[k]? = some (some x))
    (q : ∀ H' (os : List Str), Same H1 H' → H' Dd = some (.lst (os.map V.str)) → os.length ≤ 20 → (∀ y ∈ os, y ∈ ys) → Qd H') :
    ∃ W : Nat → Nat → Hp → Prop, (∃ m, W 0 m (upd H1 Dd (.lst []))) ∧ ∀ i m H, W i m H →
      ((Itl K p).stop i H ∧ Qd H) ∨ ((Itl K p).go i H ∧ ∃ Nx : Hp → Prop, (∀ H', Nx H' → ∃ m', m' < m ∧ W (i + 1) m' H') ∧ ∀ x H', (Itl K p).yld i H x H' → gName k x (wipe σ [k]) H' fun σ2 H2 => wipe σ2 [k] = wipe σ [k] ∧ tB (tDGet (tVar 2) (tVar k)) σ2 H2 fun b H3 =>
        if b = true then tVar k σ2 H3 fun y H4 => ∃ acc, H4 Dd = some (.lst acc) ∧ acc.length < sizeLine ∧ Nx (upd H4 Dd (.lst (acc ++ [y]))) else Nx H3) := by
  obtain ⟨kvs, g, nd, sub⟩ := hq.ex
  have perm := hu kvs g
  have hln := nodup_le nd (fun y hy => by
    obtain ⟨p, hp, e⟩ := List.mem_map.mp hy
    rw [← e]; exact sub p hp)
  have lus : us.length ≤ 20 := by rw [perm.length_eq]; omega
  have c0 : Ch [Dd] H1 (upd H1 Dd (.lst [])) := (Ch.refl _ _).new nD
  have nep : p ≠ Dd := fun z => by rw [z, nD] at gp; cases gp
  have neh : h ≠ Dd := fun z => by rw [z, nD] at g; cases g
  refine lc_list (xs := us.map V.str) (fun i H' => Ch [Dd] H1 H' ∧ ∃ os : List Str, H' Dd = some (.lst (os.map V.str)) ∧ os.length ≤ i ∧ ∀ y ∈ os, y ∈ ys) ⟨c0, [], upd_same, Nat.le_refl _, fun _ z => nomatch z⟩ (fun i H' _ h => SqL.of (h.1.kp _ _ (by simpa using nep) gp)) ?_ ?_
  · rintro i x H' hx ⟨ch, os, gD, lo, so⟩
    rw [List.getElem?_map] at hx
    obtain ⟨u, hu, rfl⟩ := Option.map_eq_some_iff.mp hx
    have hi : i < us.length := (List.getElem?_eq_some_iff.mp hu).1
    have um : u ∈ kvs.map (·.1) := perm.mem_iff.mp (List.mem_of_getElem? hu)
    have uy : u ∈ ys := by
      obtain ⟨p, hp, e⟩ := List.mem_map.mp um
      rw [← e]; exact sub p hp
    obtain ⟨b, hb⟩ := valV_hK kvs u um
    have gh := ch.kp _ _ (by simpa using neh) g
    have dg := DGet.k (k := (Sum.inr u : Key)) gh
    rw [hb] at dg
    refine ⟨e1 _, _, e2 _, _, e3 _, h, _, rfl, dg, b, rfl, ?_⟩
    cases b with
    | false => exact iteF ⟨ch, os, gD, by omega, so⟩
    | true =>
      refine iteT ⟨_, e3 _, _, gD, by rw [List.length_map]; exact small1000 (by omega), ch.put (by simp) gD (fun xs z => by cases z), os ++ [u], ?_, by rw [List.length_append]; exact Nat.succ_le_succ lo, fun y hy => ?_⟩
      · rw [upd_same, List.map_append]
        rfl
      · rcases List.mem_append.mp hy with hy | hy
        · exact so y hy
        · rw [List.mem_singleton.mp hy]; exact uy
  · rintro H' ⟨ch, os, gD, lo, so⟩
    rw [List.length_map] at lo
    exact q H' os (ch.kp.fresh nD).toSame gD (by omega) so
end G

set_option Elab.async false
set_option linter.all false
set_option maxRecDepth 100000
set_option maxHeartbeats 4000000
/-! _law_plain of the programs' generator. -/
namespace G
open PySem PySem.Spec PyProof.Rows L2
theorem pe_cons {X : Cx} {e : Expr} {te tw : TE} (h : PE X e te) (w : ∀ σ H Q, tw σ H Q → te σ H Q) : PE X e tw := ⟨fun pins s σ H Q I q => h.run pins s σ H Q I (w σ H Q q)⟩
def tFalse : TE := fun _ _ _ => False
theorem pe_never {X : Cx} {e : Expr} : PE X e tFalse := ⟨fun _ _ _ _ _ _ h => h.elim⟩
theorem one_in {K : PySem.W.Frag} {H2 : Hp} {D L A : Addr} {m : Nat} {zs : List Str} (d : Deck H2 D L m) (hm : m < 10 ^ 12) (g : H2 A = some (.lst (zs.map V.str))) (na : A ∉ [D, L]) (l0 : 0 < zs.length) (l1 : zs.length ≤ 20) {Q' : VK} (h : ∀ H' x, Kp [D, L] H2 H' → Deck H' D L (m + 1) → x ∈ zs → Q' (.str x) H') : spOne K [.ref D, .ref A] H2 Q' E0 := by
  refine ⟨D, L, m, _, rfl, d, hm, .inl ⟨A, _, rfl, .inl ⟨SqL.of g, na⟩, by rw [List.length_map]; exact l0, by rw [List.length_map]; omega, fun H' y k' d' hy => ?_⟩⟩
  obtain ⟨x, hx, rfl⟩ := List.mem_map.mp hy
  exact h H' x k' d' hx
theorem lay_strs' : ∀ ys : List Str, (∀ y ∈ ys, OkS y) → PyData.canLayAll0 (ys.map PyData.str) = true
  | [], _ => rfl
  | y :: r, h => by
    show (PyData.canLay0 (.str y) && PyData.canLayAll0 (r.map PyData.str)) = true
    rw [lay_strs' r fun z hz => h z (List.mem_cons_of_mem _ hz), show PyData.canLay0 (.str y) = true from OkS.ok (h y (List.mem_cons_self ..))]
    rfl
theorem dep_strs' : ∀ ys : List Str, PyData.depthAll (ys.map PyData.str) = 0
  | [] => rfl
  | y :: r => by
    show max 0 (PyData.depthAll (r.map PyData.str)) = 0
    rw [dep_strs' r]
    rfl
theorem strs_shaped (ys : List Str) (h : ∀ y ∈ ys, OkS y) : SeqAt.shaped (.list (ys.map PyData.str)) = true := by
  show (PyData.canLay0 (.list (ys.map PyData.str)) && decide (PyData.depth (.list (ys.map PyData.str)) ≤ 64)) = true
  rw [Bool.and_eq_true]
  exact ⟨by simp only [PyData.canLay0]; exact lay_strs' ys h, decide_eq_true (by simp only [PyData.depth, dep_strs']; decide)⟩
theorem dp_strs' {K : PySem.W.Frag} {H : Hp} : ∀ ys : List Str, DpAll K H (ys.map V.str) (ys.map PyData.str)
  | [] => .nil
  | y :: r => .cons (.str y) (dp_strs' r)
theorem eqv_nil (os : List Str) : PyData.eqv (.list (os.map PyData.str)) (.list []) = decide (os = []) := by
  cases os with
  | nil => rfl
  | cons x r => rfl
section
variable {P : Program} {w : World} {K : PySem.W.Frag} {mg : Str → Option Value} {base : Heap}
abbrev s__law_plain : Stmt := top 30
abbrev n__law_plain : List Str := ["_law_deck_here", "_law_pool", "_law_held", "_law_names_here", "_law_fields", "_law_words_here", "_law_olds", "_law_way", "_law_z", "_law_f", "_law_x", "_law_y", "_law_name"]
theorem sc__law_plain : FnScope n__law_plain ["_law_deck_here", "_law_pool", "_law_held"] (defScope s__law_plain) := ⟨rfl, rfl, rfl, by decide +kernel, rfl, by decide +kernel, by decide +kernel⟩
def spPlain : Sp := fun vs H Q _ => ∃ (D L a h : Addr) (S : List Addr) (n : Nat) (g : Int) (ys : List Str), vs = [.ref D, .ref a, .ref h] ∧ Deck H D L n ∧ n < 10 ^ 11 - 100 ∧ PoolY H S a g ys ∧ (D ∈ S ∧ L ∈ S ∧ h ∈ S) ∧ HeldQ H h ys ∧
  ∀ (H' : Hp) (v : V) (act : Act), Ch [D, L, h] H H' → Deck H' D L (n + 30) → HeldQ H' h ys → TD H' v act.data → act.nm → Q v H'
/-- whom the second name is drawn from -/
def twY : TE := fun σ H Q => ∃ (D L O N : Addr) (n : Nat) (os ys : List Str), σ[0]? = some (some (.ref D)) ∧ σ[6]? = some (some (.ref O)) ∧ σ[3]? = some (some (.ref N)) ∧ Deck H D L n ∧ n < 10 ^ 11 ∧ H O = some (.lst (os.map V.str)) ∧ H N = some (.lst (ys.map V.str)) ∧ O ∉ [D, L] ∧ N ∉ [D, L] ∧
  (0 < os.length ∧ os.length ≤ 20) ∧ (0 < ys.length ∧ ys.length ≤ 20) ∧ (∀ y ∈ os, y ∈ ys) ∧
  ∀ (H' : Hp) (A : Addr) (zs : List Str), Kp [D, L] H H' → Deck H' D L (n + 1) → H' A = some (.lst (zs.map V.str)) → A ∉ [D, L] → 0 < zs.length → zs.length ≤ 20 → (∀ z ∈ zs, z ∈ ys) → Q (.ref A) H'
theorem ok_plain {f f1 f2 f3 : Addr} {fd fd1 fd2 fd3 : FuncData} (F : Fun K "_law_plain" "_law_plain" s__law_plain f fd) (T : Bi mg) (z_sorted : mg "sorted" = none)
    (D1 : Df K mg "_law_draw" s__law_draw ["_law_deck_here", "_law_many"] f1 fd1) (G1 : FnOk P w K mg base CX0 1 f1 fd1 ["_law_deck_here", "_law_many"] spDraw)
    (D2 : Df K mg "_law_one" s__law_one ["_law_deck_here", "_law_items"] f2 fd2) (G2 : FnOk P w K mg base CX0 2 f2 fd2 ["_law_deck_here", "_law_items"] (spOne K))
    (D3 : Df K mg "_law_test" s__law_test ["_law_deck_here", "_law_pool", "_law_olds"] f3 fd3) (G3 : FnOk P w K mg base CX0 3 f3 fd3 ["_law_deck_here", "_law_pool", "_law_olds"] spTestQ) : FnOk P w K mg base CX0 4 f fd ["_law_deck_here", "_law_pool", "_law_held"] spPlain := by
  refine F.ok sc__law_plain (fun vs H Q E ⟨D, L, a, h, S, n, g, ys, ev, _⟩ => by rw [ev]; rfl) (fun cdv A outer s H vs Q E hr ⟨D, L, a, h, S, n, g, ys, ev, hD, hn, hp, hS, hh, q⟩ => ?_)
  subst ev
  have hr1 : Room 1 _ := hr.mono (by decide)
  have hr2 : Room 2 _ := hr.mono (by decide)
  have hu64 := hr.units
  refine ⟨_, (pss_cons (ps_asg (pe_slice sl_list (pv 1) po_none (po_some pe_int)) (pg_unl (by rfl) (pgs_cons (pg_name (i := 3) sc__law_plain.nd rfl (.inl rfl)) (pgs_cons (pg_name (i := 4) sc__law_plain.nd rfl (.inl rfl)) (pgs_cons (pg_name (i := 5) sc__law_plain.nd rfl (.inl rfl)) pgs_nil)))))
      (pss_cons (ps_setLc (i := 6) (own := [("_law_name", 12)]) (by rfl) sc__law_plain.nd rfl rfl (sw_true rfl rfl rfl (by decide +kernel)) (pi_list (pe_callB (call_sortedD (by rfl)) (by rfl) z_sorted (by decide +kernel) (pa_cons (pv 2) pa_nil))) (blkOk_by (N := n__law_plain) (sc := defScope s__law_plain) (by decide +kernel)) (fun _ _ _ _ _ => (pg_name (i := 12) sc__law_plain.nd rfl (.inl rfl))) (fun _ _ _ _ _ => pts_one (pt_val (pe_dget (hu_of hr) (pv 2) (pv 12) (fun _ _ => rfl)))) (fun _ _ _ _ _ => (pv 12)))
      (pss_cons (ps_par3 (i := 7) (j := 8) (l := 9) (by rfl) sc__law_plain.nd rfl rfl rfl (by decide) (by decide) (by decide) rfl rfl rfl (pa_cons (pe_call G1 hr1 (by rfl) D1.m D1.F.kp D1.b .nil pass0 (pa_cons (pv 0) (pa_cons pe_int pa_nil))) (pa_cons (pe_call G2 hr2 (by rfl) D2.m D2.F.kp D2.b .nil pass0 (pa_cons (pv 0) (pa_cons (pv 3) pa_nil))) (pa_cons (pe_call G2 hr2 (by rfl) D2.m D2.F.kp D2.b .nil pass0 (pa_cons (pv 0) (pa_cons (pv 4) pa_nil))) pa_nil))) (by rfl))
      (pss_cons (ps_if (PW.pt (pw_or (pt_cmpR op_lt (pv 7) pe_int (nomark _)) (pw_or1 (pt_cmpR (op_eqD hu64) (pv 6) (pe_lst pa_nil) (nomark _)))))
      (pss_cons (ps_dput (hu_of hr) (pv 2) (pv 8) pe_bl (by rfl))
      (pss_one (ps_ret (pe_tup (pa_cons pe_str (pa_cons (pv 8) pa_nil))))))
      pss_nil)
      (pss_cons (ps_par (i := 10) (j := 11) (by rfl) sc__law_plain.nd rfl rfl (by decide) rfl rfl (pa_cons (pe_call G2 hr2 (by rfl) D2.m D2.F.kp D2.b .nil pass0 (pa_cons (pv 0) (pa_cons (pv 6) pa_nil))) (pa_cons (pe_call G2 hr2 (by rfl) D2.m D2.F.kp D2.b .nil pass0 (pa_cons (pv 0) (pa_cons (pe_cons (tw := twY) (pe_ifExp (pt_cmpR op_gt (pe_call G1 hr1 (by rfl) D1.m D1.F.kp D1.b .nil pass0 (pa_cons (pv 0) (pa_cons pe_int pa_nil))) pe_int (nomark _)) (pv 6) (pv 3)) (fun σ H Q ⟨D, L, O, N, n, os, ys, e0, e6, e3, hD, hn, gO, gN, nO, nN, lO, lN, so, q⟩ => by
        refine ⟨_, e0, D, L, n, 9, rfl, hD, by omega, by decide, by decide, fun H1 r k1 hD1 r0 r1 => ⟨_, _, rfl, rfl, _, rfl, ite2 (fun _ => ?_) (fun _ => ?_)⟩⟩
        · exact ⟨_, e6, q H1 O os k1 hD1 (k1 _ _ nO gO) nO lO.1 lO.2 so⟩
        · exact ⟨_, e3, q H1 N ys k1 hD1 (k1 _ _ nN gN) nN lN.1 lN.2 fun _ z => z⟩)) pa_nil))) pa_nil)) (by rfl))
      (pss_cons (ps_if (pt_cmpR op_lt (pv 7) pe_int (nomark _))
      (pss_one (ps_ret (pe_tup (pa_cons pe_str (pa_cons (pv 10) (pa_cons (pv 9) (pa_cons (pv 11) pa_nil)))))))
      pss_nil)
      (pss_cons (ps_if (pt_cmpR op_lt (pv 7) pe_int (nomark _))
      (pss_one (ps_ret (pe_tup (pa_cons pe_str (pa_cons (pv 10) (pa_cons (pv 9) (pa_cons (pv 11) pa_nil)))))))
      pss_nil)
      (pss_cons (ps_if (pt_cmpR op_eq (pv 7) pe_int (nomark _))
      (pss_cons (ps_dput (hu_of hr) (pv 2) (pv 8) (pe_cmpR op_eq (pe_call G1 hr1 (by rfl) D1.m D1.F.kp D1.b .nil pass0 (pa_cons (pv 0) (pa_cons pe_int pa_nil))) pe_int (nomark _)) (by rfl))
      (pss_one (ps_ret (pe_tup (pa_cons pe_str (pa_cons (pv 8) (pa_cons (pv 10) (pa_cons (pv 9) pa_nil))))))))
      pss_nil)
      (pss_cons (ps_if (pt_cmpR op_lt (pv 7) pe_int (nomark _))
      (pss_cons (ps_dput (hu_of hr) (pv 2) (pv 10) pe_bl (by rfl))
      (pss_one (ps_ret (pe_tup (pa_cons pe_str (pa_cons (pv 10) pa_nil))))))
      pss_nil)
      (pss_cons (ps_if (pt_cmpR op_eq (pv 7) pe_int (nomark _))
      (pss_cons (ps_dput (hu_of hr) (pv 2) (pv 8) pe_bl (by rfl))
      (pss_one (ps_ret (pe_tup (pa_cons pe_str (pa_cons (pv 8) (pa_cons (pv 10) pa_nil)))))))
      pss_nil)
      (pss_cons (ps_if (pt_cmpR op_eq (pv 7) pe_int (nomark _))
      (pss_one (ps_ret (pe_tup (pa_cons pe_str (pa_cons (pv 10) (pa_cons (pv 9) pa_nil))))))
      pss_nil)
      (pss_cons (ps_if (pt_cmpR op_eq (pv 7) pe_int (nomark _))
      (pss_one (ps_ret (pe_tup (pa_cons pe_str (pa_cons (pv 10) (pa_cons (pe_call G2 hr2 (by rfl) D2.m D2.F.kp D2.b .nil pass0 (pa_cons (pv 0) (pa_cons (pv 5) pa_nil))) pa_nil))))))
      pss_nil)
      (pss_cons (ps_if (pt_cmpR op_eq (pv 7) pe_int (nomark _))
      (pss_one (ps_ret (pe_ifExp (pt_cmpR op_eq (pe_call G1 hr1 (by rfl) D1.m D1.F.kp D1.b .nil pass0 (pa_cons (pv 0) (pa_cons pe_int pa_nil))) pe_int (nomark _)) (pe_tup (pa_cons pe_str (pa_cons (pv 10) pa_nil))) (pe_tup (pa_cons pe_str (pa_cons (pe_call G2 hr2 (by rfl) D2.m D2.F.kp D2.b .nil pass0 (pa_cons (pv 0) (pa_cons (pv 5) pa_nil))) pa_nil))))))
      pss_nil)
      (pss_one (ps_ret (pe_tup (pa_cons pe_str (pa_cons (pe_call G3 hr (by rfl) D3.m D3.F.kp D3.b .nil pass0 (pa_cons (pv 0) (pa_cons (pv 1) (pa_cons (pv 6) pa_nil)))) pa_nil)))))))))))))))))), ?_⟩
  obtain ⟨N, Fa, Wd, ga, gN, nN, tF, tW⟩ := id hp.ex
  have ga0 := ga
  have nhDL := hh.ne hD
  have sDL : ∀ b ∈ [D, L], b ∈ S := fun b hb => by
    simp only [List.mem_cons, List.not_mem_nil, or_false] at hb
    rcases hb with rfl | rfl
    · exact hS.1
    · exact hS.2.1
  have nNDL : N ∉ [D, L] := fun z => nN (sDL _ z)
  refine ⟨_, rfl, _, rfl, a, _, rfl, SqL.of ga, fun p1 np1 => ?_⟩
  have ec : cutV [V.ref N, V.ref Fa, V.ref Wd, V.int g] none (some 3) = [V.ref N, V.ref Fa, V.ref Wd] := rfl
  have s1 := Same.up (o := HO.lst (cutV [V.ref N, V.ref Fa, V.ref Wd, V.int g] none (some 3))) np1
  have g1 : upd H p1 (HO.lst (cutV [V.ref N, V.ref Fa, V.ref Wd, V.int g] none (some 3))) p1 = some (.lst [V.ref N, V.ref Fa, V.ref Wd]) := by rw [upd_same, ec]
  have hD1 := hD.kp (Kp.same (S := []) s1) (fun z => nomatch z) (fun z => nomatch z)
  generalize upd H p1 (HO.lst (cutV [V.ref N, V.ref Fa, V.ref Wd, V.int g] none (some 3))) = H1 at s1 g1 hD1 ⊢
  refine ⟨p1, _, rfl, SqL.of g1, rfl, _, _, rfl, _, _, rfl, _, _, rfl, rfl, ?_⟩
  have hh1 := hh.at (s1 _)
  obtain ⟨kvs, gh, nd, sub⟩ := id hh1.ex
  have hln := nodup_le nd (fun y hy => by
    obtain ⟨p, hp, e⟩ := List.mem_map.mp hy
    rw [← e]; exact sub p hp)
  rw [List.length_map] at hln
  refine ⟨_, rfl, h, _, kvs.map (·.1), rfl, .inl gh, by rw [List.map_map, List.map_map]; rfl, by rw [List.length_map]; have := hp.l.2; omega, fun us p2 perm srt np2 => ?_⟩
  have s2 := Same.up (o := HO.lst (us.map V.str)) np2
  have g2 : upd H1 p2 (HO.lst (us.map V.str)) p2 = some (.lst (us.map V.str)) := upd_same
  have hD2 := hD1.kp (Kp.same (S := []) s2) (fun z => nomatch z) (fun z => nomatch z)
  generalize upd H1 p2 (HO.lst (us.map V.str)) = H2 at s2 g2 hD2 ⊢
  have hh2 := hh1.at (s2 _)
  have s12 := Same.trans s1 s2
  refine ⟨p2, rfl, ⟨_, SqL.of g2⟩, fun O nO => lc_olds hh2 hp.l.2 hp.nm g2 (fun kvs' gh' => ?_) nO (fun _ => rfl) (fun _ => rfl) (fun _ => rfl) fun H3 os s3 gO lo so => ?_⟩
  · have e := s2 _ _ gh
    rw [e] at gh'
    have e2 : kvs.map hK = kvs'.map hK := by injection gh' with e; injection e
    have e3 : kvs.map (·.1) = kvs'.map (·.1) := by
      have := congrArg (List.map fun p : Key × V => match p.1 with | .inr x => x | .inl _ => ("" : Str)) e2
      rw [List.map_map, List.map_map] at this
      exact this
    rw [← e3]
    exact perm
  have s03 := Same.trans s12 s3
  have hD3 := hD2.kp (Kp.same (S := []) s3) (fun z => nomatch z) (fun z => nomatch z)
  have nODL : O ∉ [D, L] := by simpa using hD2.neD nO
  refine ⟨.ref D, rfl, D, L, n, 20, rfl, hD3, by omega, by decide, by decide, fun H4 way k4 hD4 w0 w1 => ?_⟩
  have k04 : Kp [D, L] H H4 := (Kp.same s03).trans k4
  have kS4 := k04.mono sDL
  refine ⟨.ref D, rfl, .ref N, rfl, one_in hD4 (by omega) (k04 _ _ nNDL gN) nNDL hp.l.1 hp.l.2 fun H5 z k5 hD5 hz => ?_⟩
  have k05 := k04.trans k5
  refine ⟨.ref D, rfl, .ref Fa, rfl, one_tx hD5 (by omega) (tF.kp (k05.mono sDL)) (by decide) ⟨hS.1, hS.2.1⟩ fun H6 fl k6 hD6 hf => ?_⟩
  have k06 := k05.trans k6
  have c06 : Ch [D, L] H H6 := deck_ch hD hD6 k06
  have hh6 := hh.kp k06 nhDL
  have hp6 := hp.kp (k06.mono sDL)
  have gO6 : H6 O = some (.lst (os.map V.str)) := (k4.trans (k5.trans k6)) _ _ nODL gO
  have gN6 := k06 _ _ nNDL gN
  have zn := hp.nm z hz
  have hyl := hp.l
  have osn : ∀ y ∈ os, Nm y := fun y hy => hp.nm y (so y hy)
  have m3 : ∀ b ∈ [D, L], b ∈ [D, L, h] := fun b hb => by
    simp only [List.mem_cons, List.not_mem_nil, or_false] at hb ⊢
    rcases hb with rfl | rfl
    · exact .inl rfl
    · exact .inr (.inl rfl)
  clear ga gN tF tW perm srt hln
  have fin : ∀ (Hx : Hp) (m : Nat) (act : Act) (xs : List V) (ds : List PyData), Ch [D, L, h] H Hx → Deck Hx D L m → m ≤ n + 30 → HeldQ Hx h ys → act.data = .tuple ds → TDs Hx xs ds → act.nm → ds.length ≤ 10 →
      xs.length ≤ sizeLine ∧ ∀ p, Hx p = none → Q (.ref p) (upd Hx p (.tup xs)) := fun Hx m act xs ds c d hm hq ed td an ld => ⟨by rw [td.len]; exact line1000 (by omega), fun p np => by
    have sp := Same.up (o := HO.tup xs) np
    refine q _ _ act (c.trans (Ch.same sp)) ((d.kp (Kp.same (S := []) sp) (fun z => nomatch z) (fun z => nomatch z)).mono (by omega)) (hq.at (sp _)) ?_ an
    rw [ed]
    exact .tup upd_same (TDs.ch (Ch.same (S := []) sp) _ _ td)⟩
  -- a store into held, then the statement
  have put : ∀ (Hx : Hp) (m : Nat) (x : Str) (b : Bool) (act : Act) (xs : List V) (ds : List PyData), Ch [D, L] H Hx → Deck Hx D L m → m ≤ n + 30 → x ∈ ys → act.data = .tuple ds → (∀ H', Ch [h] Hx H' → TDs H' xs ds) → act.nm → ds.length ≤ 10 →
      ∃ (a' : Addr) (H' : Hp), V.ref h = V.ref a' ∧ DPut Hx a' (.str x) (.bl b) H' ∧ (xs.length ≤ sizeLine ∧ ∀ p, H' p = none → Q (.ref p) (upd H' p (.tup xs))) := fun Hx m x b act xs ds c d hm hx ed td an ld => by
    obtain ⟨H', dp, c', hq'⟩ := (hh.kp c.kp nhDL).put hyl.2 hx b
    have nh : D ∉ [h] ∧ L ∉ [h] := by simp at nhDL ⊢; exact ⟨Ne.symm nhDL.1, Ne.symm nhDL.2⟩
    exact ⟨h, H', rfl, dp, fin H' m act xs ds ((c.mono m3).trans (c'.mono (fun b hb => by simp at hb; simp [hb]))) (d.kp c'.kp nh.1 nh.2) hm hq' ed (td H' c') an ld⟩
  -- make
  refine ⟨_, _, _, rfl, _, rfl, _, _, rfl, rfl, _, rfl, ite2 (fun _ => ?mk1) (fun hw => ?nx)⟩
  case mk1 => exact ⟨_, rfl, _, rfl, by
    obtain ⟨a', H', e, dp, r⟩ := put H6 _ z true (.make z) [V.str "make", V.str z] _ c06 hD6 (by omega) hz rfl (fun _ _ => .cons (.str _) (.cons (.str _) .nil)) zn (Nat.le_of_ble_eq_true rfl)
    exact ⟨a', H', e, dp, _, rfl, r⟩⟩
  refine ⟨_, rfl, Nat.zero_le _, fun l nl => ?_⟩
  have s7 := Same.up (o := HO.lst []) nl
  have g7 : upd H6 l (HO.lst []) l = some (.lst []) := upd_same
  have hD7 := hD6.kp (Kp.same (S := []) s7) (fun z => nomatch z) (fun z => nomatch z)
  generalize upd H6 l (HO.lst []) = H7 at s7 g7 hD7 ⊢
  have gO7 := s7 _ _ gO6
  refine ⟨.list (os.map PyData.str), .list [], .lst (SqL.of gO7) (dp_strs' os), .lst (SqL.of g7) .nil, strs_shaped os (fun y hy => (osn y hy).2), by decide +kernel, _, rfl, ?_⟩
  rw [eqv_nil]
  refine ite2 (fun _ => ?mk2) (fun he => ?nx2)
  case mk2 => exact ⟨_, rfl, _, rfl, by
    obtain ⟨a', H', e, dp, r⟩ := put H7 _ z true (.make z) [V.str "make", V.str z] _ (c06.trans (Ch.same s7)) hD7 (by omega) hz rfl (fun _ _ => .cons (.str _) (.cons (.str _) .nil)) zn (Nat.le_of_ble_eq_true rfl)
    exact ⟨a', H', e, dp, _, rfl, r⟩⟩
  have lO0 : 0 < os.length := by
    rcases os with _ | ⟨x, r⟩
    · exact absurd (decide_eq_true rfl) he
    · exact Nat.succ_pos _
  have c07 := c06.trans (Ch.same s7)
  have gN7 := s7 _ _ gN6
  refine ⟨.ref D, rfl, .ref O, rfl, one_in hD7 (by omega) gO7 nODL lO0 lo fun H8 x k8 hD8 hx => ?_⟩
  have c08 := c07.trans (deck_ch hD7 hD8 k8)
  refine ⟨.ref D, rfl, D, L, O, N, _, os, ys, rfl, rfl, rfl, hD8, by omega, k8 _ _ nODL gO7, k8 _ _ nNDL gN7, nODL, nNDL, ⟨lO0, lo⟩, hyl, so, fun H9 A9 zs k9 hD9 gA nA l0 l1 sz => one_in hD9 (by omega) gA nA l0 l1 fun H10 y k10 hD10 hy => ?_⟩
  have c10 : Ch [D, L] H H10 := c08.trans ((deck_ch hD8 hD9 k9).trans (deck_ch hD9 hD10 k10))
  have xy := so x hx
  have xn := hp.nm x xy
  have yn := hp.nm y (sz y hy)
  have hh10 := hh.kp c10.kp nhDL
  have gO10 : H10 O = some (.lst (os.map V.str)) := (k8.trans (k9.trans k10)) _ _ nODL gO7
  have hp10 := hp.kp (c10.kp.mono sDL)
  clear hp6 gO7 gN7 gN6 gO6 hD7 hD8 hD9 gA hD6 hh6
  refine ⟨_, _, rfl, ?_⟩
  show tSeq _ _ _ [some (.ref D), some (.ref a), some (.ref h), some (.ref N), some (.ref Fa), some (.ref Wd), some (.ref O), some (.int way), some (.str z), some (.str fl), some (.str x), some (.str y), none] H10
  refine ⟨_, rfl, _, _, rfl, rfl, _, rfl, ite2 (fun _ => ?_) (fun _ => ?_)⟩
  · exact ⟨_, rfl, _, rfl, _, rfl, fin H10 _ (.weak x fl y) _ _ (c10.mono m3) hD10 (by omega) hh10 rfl (.cons (.str _) (.cons (.str _) (.cons (.str _) (.cons (.str _) .nil)))) ⟨xn, hf, yn⟩ (Nat.le_of_ble_eq_true rfl)⟩
  refine ⟨_, rfl, _, _, rfl, rfl, _, rfl, ite2 (fun _ => ?_) (fun _ => ?_)⟩
  · exact ⟨_, rfl, _, rfl, _, rfl, fin H10 _ (.hold x fl y) _ _ (c10.mono m3) hD10 (by omega) hh10 rfl (.cons (.str _) (.cons (.str _) (.cons (.str _) (.cons (.str _) .nil)))) ⟨xn, hf, yn⟩ (Nat.le_of_ble_eq_true rfl)⟩
  refine ⟨_, rfl, rfl, _, rfl, ite2 (fun _ => ?_) (fun _ => ?_)⟩
  · refine ⟨.ref D, rfl, D, L, _, 2, rfl, hD10, by omega, by decide, by decide, fun H11 r k11 hD11 r0 r1 => ⟨rfl, _, rfl, _, rfl, ?_⟩⟩
    obtain ⟨a', H', e, dp, rr⟩ := put H11 _ z (decide (V.int r = V.int 0)) (.take z x fl) [V.str "take", V.str z, V.str x, V.str fl] _ (c10.trans (deck_ch hD10 hD11 k11)) hD11 (by omega) hz rfl (fun _ _ => .cons (.str _) (.cons (.str _) (.cons (.str _) (.cons (.str _) .nil)))) ⟨zn, xn, hf⟩ (Nat.le_of_ble_eq_true rfl)
    exact ⟨a', H', e, dp, _, rfl, _, rfl, _, rfl, rr⟩
  refine ⟨_, rfl, _, _, rfl, rfl, _, rfl, ite2 (fun _ => ?_) (fun _ => ?_)⟩
  · refine ⟨_, rfl, _, rfl, ?_⟩
    obtain ⟨a', H', e, dp, rr⟩ := put H10 _ x false (.drop x) [V.str "drop", V.str x] _ c10 hD10 (by omega) xy rfl (fun _ _ => .cons (.str _) (.cons (.str _) .nil)) xn (Nat.le_of_ble_eq_true rfl)
    exact ⟨a', H', e, dp, _, rfl, rr⟩
  refine ⟨_, rfl, rfl, _, rfl, ite2 (fun _ => ?_) (fun _ => ?_)⟩
  · refine ⟨_, rfl, _, rfl, ?_⟩
    obtain ⟨a', H', e, dp, rr⟩ := put H10 _ z true (.name z x) [V.str "name", V.str z, V.str x] _ c10 hD10 (by omega) hz rfl (fun _ _ => .cons (.str _) (.cons (.str _) (.cons (.str _) .nil))) ⟨zn, xn⟩ (Nat.le_of_ble_eq_true rfl)
    exact ⟨a', H', e, dp, _, rfl, _, rfl, rr⟩
  refine ⟨_, rfl, rfl, _, rfl, ite2 (fun _ => ?_) (fun _ => ?_)⟩
  · exact ⟨_, rfl, _, rfl, fin H10 _ (.cut x fl) _ _ (c10.mono m3) hD10 (by omega) hh10 rfl (.cons (.str _) (.cons (.str _) (.cons (.str _) .nil))) ⟨xn, hf⟩ (Nat.le_of_ble_eq_true rfl)⟩
  obtain ⟨N', Fa', Wd', ga', gN', nN', tF', tW'⟩ := hp10.ex
  have eW : Wd' = Wd := by
    have e := c10.kp _ _ (fun z => hp.n (sDL _ z)) ga0
    rw [e] at ga'
    injection ga' with e1
    injection e1 with e2
    injection e2 with _ e3
    injection e3 with _ e4
    injection e4 with e5 _
    injection e5 with e6
    exact e6.symm
  rw [eW] at tW'
  refine ⟨_, rfl, rfl, _, rfl, ite2 (fun _ => ?_) (fun _ => ?_)⟩
  · refine ⟨_, rfl, .ref D, rfl, _, rfl, one_tx hD10 (by omega) tW' (by decide) ⟨hS.1, hS.2.1⟩ fun H11 u k11 hD11 hu => ?_⟩
    have c11 := deck_ch hD10 hD11 k11
    exact fin H11 _ (.wish x u) _ _ ((c10.trans c11).mono m3) hD11 (by omega) (hh10.kp k11 nhDL) rfl (.cons (.str _) (.cons (.str _) (.cons (.str _) .nil))) ⟨xn, hu⟩ (Nat.le_of_ble_eq_true rfl)
  refine ⟨_, rfl, rfl, _, rfl, ite2 (fun _ => ?_) (fun _ => ?_)⟩
  · refine ⟨.ref D, rfl, D, L, _, 4, rfl, hD10, by omega, by decide, by decide, fun H11 r k11 hD11 r0 r1 => ⟨rfl, _, rfl, ite2 (fun _ => ?_) (fun _ => ?_)⟩⟩
    · exact ⟨_, rfl, fin H11 _ (.keep x) _ _ ((c10.trans (deck_ch hD10 hD11 k11)).mono m3) hD11 (by omega) (hh10.kp k11 nhDL) rfl (.cons (.str _) (.cons (.str _) .nil)) xn (Nat.le_of_ble_eq_true rfl)⟩
    · refine ⟨.ref D, rfl, _, rfl, one_tx hD11 (by omega) (tW'.kp (k11.mono sDL)) (by decide) ⟨hS.1, hS.2.1⟩ fun H12 u k12 hD12 hu => ?_⟩
      exact fin H12 _ (.say u) _ _ ((c10.trans (deck_ch hD10 hD12 (k11.trans k12))).mono m3) hD12 (by omega) (hh10.kp (k11.trans k12) nhDL) rfl (.cons (.str _) (.cons (.str _) .nil)) hu (Nat.le_of_ble_eq_true rfl)
  · refine ⟨.ref D, rfl, .ref a, rfl, .ref O, rfl, D, L, a, O, [D, L], _, g, rfl, hD10, by omega, (hp10.sub fun b hb => .inl (sDL b hb)).toQ, ⟨by simp, by simp⟩, ⟨⟨os, gO10, osn, lO0, by omega⟩, nODL⟩, fun H11 v t k11 hD11 tdv tok => ?_⟩
    exact fin H11 _ (.ask t) _ _ ((c10.trans (deck_ch hD10 hD11 k11)).mono m3) hD11 (by omega) (hh10.kp k11 nhDL) rfl (.cons (.str _) (.cons tdv .nil)) tok (Nat.le_of_ble_eq_true rfl)
end
end G

set_option Elab.async false
set_option linter.all false
set_option maxRecDepth 100000
set_option maxHeartbeats 4000000
/-! _law_body of the programs' generator. -/
namespace G
open PySem PySem.Spec PyProof.Rows L2
mutual
def wtS : Sta → Int
  | .act _ => 1
  | .cond _ y n => 1 + (wtB y + wtB n)
  | .rep k b => 1 + (k : Int) * wtB b
def wtB : List Sta → Int
  | [] => 0
  | s :: r => wtS s + wtB r
end
theorem wtB_snoc (s : Sta) : ∀ b : List Sta, wtB (b ++ [s]) = wtB b + wtS s
  | [] => by show wtS s + 0 = 0 + wtS s; omega
  | x :: r => by
    show wtS x + wtB (r ++ [s]) = wtS x + wtB r + wtS s
    rw [wtB_snoc s r]; omega
theorem blk_snoc (b : List Sta) (s : Sta) : blkData (b ++ [s]) = blkData b ++ [s.data] := by
  rw [blkData_eq, blkData_eq, List.map_append]
  rfl
def rSubE : R2 := fun x y H Q => ∃ i j, x = .int i ∧ y = .int j ∧ ∀ z, z = i - j → Q (.int z) H
theorem op_subE {X : Cx} : OpR X (binaryOp .Sub) rSubE := by
  intro pins s σ H x y v u Q I rx ry h
  obtain ⟨i, j, rfl, rfl, q⟩ := h
  exact op_sub pins s σ H _ _ v u Q I rx ry ⟨i, j, rfl, rfl, q _ rfl⟩
def cB : Nat → Nat
  | 0 => 0
  | r + 1 => 1 + 12 * (45 + 2 * cB r)
theorem cut_take (xs : List V) (k : Nat) : cutV xs none (some (k : Int)) = xs.take k := by
  show List.take (HT.sIx xs.length xs.length (some (k : Int)) - HT.sIx xs.length 0 none) (List.drop (HT.sIx xs.length 0 none) xs) = _
  rw [HT.sIx_nat]
  show List.take (min k xs.length - 0) (List.drop 0 xs) = _
  rw [List.drop_zero, Nat.sub_zero, ← List.take_take, List.take_of_length_le (Nat.le_refl _)]
theorem cut_drop (xs : List V) (k : Nat) : cutV xs (some (k : Int)) none = xs.drop k := by
  show List.take (xs.length - HT.sIx xs.length 0 (some (k : Int))) (List.drop (HT.sIx xs.length 0 (some (k : Int))) xs) = _
  rw [HT.sIx_nat]
  rcases Nat.le_total k xs.length with h | h
  · rw [Nat.min_eq_left h, List.take_of_length_le (by rw [List.length_drop]; omega)]
  · rw [Nat.min_eq_right h, List.drop_eq_nil_of_le (Nat.le_refl _), List.drop_eq_nil_of_le h, List.take_nil]
theorem cut_mid (xs : List V) (i j : Nat) : cutV xs (some (i : Int)) (some (j : Int)) = (xs.drop i).take (j - i) := by
  show List.take (HT.sIx xs.length xs.length (some (j : Int)) - HT.sIx xs.length 0 (some (i : Int))) (List.drop (HT.sIx xs.length 0 (some (i : Int))) xs) = _
  rw [HT.sIx_nat, HT.sIx_nat]
  rcases Nat.le_total i xs.length with h | h
  · rw [Nat.min_eq_left h]
    rcases Nat.le_total j xs.length with h2 | h2
    · rw [Nat.min_eq_left h2]
    · rw [Nat.min_eq_right h2, List.take_of_length_le (by rw [List.length_drop]; omega), List.take_of_length_le (by rw [List.length_drop]; omega)]
  · rw [Nat.min_eq_right h, List.drop_eq_nil_of_le (Nat.le_refl _), List.drop_eq_nil_of_le h, List.take_nil, List.take_nil]
/-- a drawn block: of statements so deep -/
def spBlk (r : Nat) : Sp := fun vs H Q _ => ∃ (D L a h Lf Sh : Addr) (S : List Addr) (n : Nat) (g l0 l1 wd tm : Int) (ys : List Str), vs = [.ref D, .ref a, .ref h, .ref Lf, .ref Sh] ∧ Deck H D L n ∧ n + cB (r + 1) < 10 ^ 11 - 200 ∧ PoolY H S a g ys ∧ (D ∈ S ∧ L ∈ S ∧ h ∈ S ∧ Lf ∈ S) ∧ HeldQ H h ys ∧
    H Lf = some (.lst [.int l0, .int l1]) ∧ Lf ∉ [D, L] ∧ (0 ≤ l0 ∧ l0 ≤ 31) ∧ (0 ≤ l1 ∧ l1 ≤ 200) ∧ H Sh = some (.lst [.int wd, .int (r : Int), .int tm]) ∧ Sh ∉ [D, L, h, Lf] ∧ (1 ≤ wd ∧ wd ≤ 12) ∧ (0 ≤ tm ∧ tm ≤ 1000) ∧
    ∀ (H' : Hp) (t : Addr) (blk : List Sta) (l0' l1' : Int), Ch [D, L, h, Lf] H H' → Deck H' D L (n + cB (r + 1)) → HeldQ H' h ys → H' Lf = some (.lst [.int l0', .int l1']) → TD H' (.ref t) (.tuple (blkData blk)) → (∀ s ∈ blk, StaOk r s) → ((sizeB blk : Nat) : Int) + l0' ≤ l0 → 0 ≤ l0' → wtB blk * tm + l1' ≤ l1 → (0 ≤ l1' ∧ l1' ≤ 200) → Q (.ref t) H'
def spBody : Nat → Sp
  | 0 => fun _ _ _ _ => False
  | r + 1 => spBlk r
theorem spBody_of {r r' : Nat} {vs : List V} {H : Hp} {Q : VK} {E : XK} (e : r = r' + 1) (h : spBlk r' vs H Q E) : spBody r vs H Q E := by
  subst e
  exact h
/-- what a drawn statement is put behind -/
def twEl (D L a h Lf Sh : Addr) (S : List Addr) (g wd tm : Int) (r : Nat) (ys : List Str) : TS := fun Dn σ H => ∃ (R O : Addr) (m : Nat) (z0 z1 kk way : Int) (acc : List V) (x9 x10 x11 x12 x13 : Option V),
  σ = [some (.ref D), some (.ref a), some (.ref h), some (.ref Lf), some (.ref Sh), some (.ref R), some (.int kk), some (.int way), some (.ref O), x9, x10, x11, x12, x13] ∧
  Deck H D L m ∧ m + 40 + 2 * cB r < 10 ^ 11 - 200 ∧ PoolY H S a g ys ∧ HeldQ H h ys ∧ H Lf = some (.lst [.int z0, .int z1]) ∧ H Sh = some (.lst [.int wd, .int (r : Int), .int tm]) ∧ H R = some (.lst acc) ∧ acc.length ≤ 30 ∧ R ∉ [D, L, h, Lf] ∧ (0 ≤ z0 ∧ z0 ≤ 30) ∧ (0 ≤ z1 ∧ z1 + tm ≤ 200) ∧ Txs H [D, L] O 100 ∧
  ∀ (Hd : Hp) (v : V) (sta : Sta) (l0'' l1'' : Int) (y7 y8 y9 y10 y11 y12 y13 : Option V), Ch [D, L, h, Lf] H Hd → Deck Hd D L (m + 40 + 2 * cB r) → HeldQ Hd h ys → Hd Lf = some (.lst [.int l0'', .int l1'']) → TD Hd v sta.data → StaOk r sta → ((sta.size : Nat) : Int) + l0'' ≤ z0 + 1 → 0 ≤ l0'' → wtS sta * tm + l1'' ≤ z1 + tm → (0 ≤ l1'' ∧ l1'' ≤ 200) →
    Dn.nx [some (.ref D), some (.ref a), some (.ref h), some (.ref Lf), some (.ref Sh), some (.ref R), some (.int kk), y7, y8, y9, y10, y11, y12, y13] (upd Hd R (.lst (acc ++ [v])))
section
variable {P : Program} {w : World} {K : PySem.W.Frag} {mg : Str → Option Value} {base : Heap}
abbrev s__law_body : Stmt := top 31
abbrev n__law_body : List Str := ["_law_deck_here", "_law_pool", "_law_held", "_law_left", "_law_shape", "_law_rows", "_law_k", "_law_way", "_law_olds", "_law_test_here", "_law_inner", "_law_yes", "_law_times", "_law_name"]
abbrev p__law_body : List Str := ["_law_deck_here", "_law_pool", "_law_held", "_law_left", "_law_shape"]
theorem sc__law_body : FnScope n__law_body p__law_body (defScope s__law_body) := ⟨rfl, rfl, rfl, by decide +kernel, rfl, by decide +kernel, by decide +kernel⟩
theorem ok_body0 {f : Addr} {fd : FuncData} {k : Nat} (F : Fun K "_law_body" "_law_body" s__law_body f fd) : FnOk P w K mg base CX0 (k + 1) f fd p__law_body (spBody 0) :=
  F.ok sc__law_body (fun vs H Q E h => h.elim) (fun cdv A outer s H vs Q E hr h => h.elim)
theorem ok_body {f f1 f2 f3 f4 : Addr} {fd fd1 fd2 fd3 fd4 : FuncData} {r k : Nat} (hr4 : r ≤ 4) (hk : 4 ≤ k) (F : Fun K "_law_body" "_law_body" s__law_body f fd) (T : Bi mg) (z_sorted : mg "sorted" = none) (z_tuple : mg "tuple" = none) (z_dict : mg "dict" = none)
    (D1 : Df K mg "_law_draw" s__law_draw ["_law_deck_here", "_law_many"] f1 fd1) (G1 : FnOk P w K mg base CX0 1 f1 fd1 ["_law_deck_here", "_law_many"] spDraw)
    (D2 : Df K mg "_law_one" s__law_one ["_law_deck_here", "_law_items"] f2 fd2) (G2 : FnOk P w K mg base CX0 2 f2 fd2 ["_law_deck_here", "_law_items"] (spOne K))
    (D3 : Df K mg "_law_test" s__law_test ["_law_deck_here", "_law_pool", "_law_olds"] f3 fd3) (G3 : FnOk P w K mg base CX0 3 f3 fd3 ["_law_deck_here", "_law_pool", "_law_olds"] spTestQ)
    (D4 : Df K mg "_law_plain" s__law_plain ["_law_deck_here", "_law_pool", "_law_held"] f4 fd4) (G4 : FnOk P w K mg base CX0 4 f4 fd4 ["_law_deck_here", "_law_pool", "_law_held"] spPlain)
    (mB : mg "_law_body" = some (.ref f)) (bB : Binds K fd p__law_body []) (GB : FnOk P w K mg base CX0 k f fd p__law_body (spBody r)) : FnOk P w K mg base CX0 (k + 1) f fd p__law_body (spBody (r + 1)) := by
  refine F.ok sc__law_body (fun vs H Q E ⟨D, L, a, h, Lf, Sh, S, n, g, l0, l1, wd, tm, ys, ev, _⟩ => by rw [ev]; rfl) (fun cdv A outer s H vs Q E hr ⟨D, L, a, h, Lf, Sh, S, n, g, l0, l1, wd, tm, ys, ev, hD, hn, hp, hS, hh, gL, nL, b0, b1, gSh, nSh, bw, bt, q⟩ => ?_)
  subst ev
  have hr1 : Room 1 _ := hr.mono (by omega)
  have hr2 : Room 2 _ := hr.mono (by omega)
  have hr3 : Room 3 _ := hr.mono (by omega)
  have hr4' : Room 4 _ := hr.mono (by omega)
  have sDL : ∀ b ∈ [D, L], b ∈ S := fun b hb => by
    simp only [List.mem_cons, List.not_mem_nil, or_false] at hb
    rcases hb with rfl | rfl
    · exact hS.1
    · exact hS.2.1
  have nh : h ∉ [D, L] := hh.ne hD
  have nhL : h ≠ Lf := fun z => by
    obtain ⟨kvs, e, _⟩ := hh.ex
    rw [z, gL] at e
    cases e
  -- a body is called with a copy of the dict
  have bodyQ : ∀ (Hx : Hp) (m : Nat) (I : Addr) (z0 z1 wd' tm' : Int) (r' : Nat) (Q' : VK), r = r' + 1 → Deck Hx D L m → m + cB r < 10 ^ 11 - 200 → PoolY Hx S a g ys → HeldQ Hx h ys → Hx Lf = some (.lst [.int z0, .int z1]) → Hx I = some (.lst [.int wd', .int (r' : Int), .int tm']) → I ∉ [D, L, Lf] → (0 ≤ z0 ∧ z0 ≤ 31) → (0 ≤ z1 ∧ z1 ≤ 200) → (1 ≤ wd' ∧ wd' ≤ 12) → (0 ≤ tm' ∧ tm' ≤ 1000) →
      (∀ (Hd : Hp) (ty : Addr) (blk : List Sta) (l0' l1' : Int), Ch [D, L, Lf] Hx Hd → Deck Hd D L (m + cB r) → HeldQ Hd h ys → Hd Lf = some (.lst [.int l0', .int l1']) → TD Hd (.ref ty) (.tuple (blkData blk)) → (∀ s ∈ blk, StaOk r' s) → ((sizeB blk : Nat) : Int) + l0' ≤ z0 → 0 ≤ l0' → wtB blk * tm' + l1' ≤ z1 → (0 ≤ l1' ∧ l1' ≤ 200) → Q' (.ref ty) Hd) →
      ∃ (u : V), some (some (V.ref h)) = some (some u) ∧ ∃ (b : Addr) (kvs : List (Key × V)), [u] = [V.ref b] ∧ Rd Hx b (.dK kvs) ∧ ∀ p, Hx p = none → ∃ w3 : V, some (some (V.ref Lf)) = some (some w3) ∧ ∃ w4 : V, some (some (V.ref I)) = some (some w4) ∧ spBody r [V.ref D, .ref a, .ref p, w3, w4] (upd Hx p (.dK kvs)) Q' E0 := by
    intro Hx m I z0 z1 wd' tm' r' Q' er hDx hm hpx hhx gLx gI nI c0 c1 c2 c3 qq
    obtain ⟨kvs, gh, nd, sub⟩ := hhx.ex
    refine ⟨_, rfl, h, _, rfl, .inl gh, fun p np => ⟨_, rfl, _, rfl, spBody_of er ?_⟩⟩
    have sp := Same.up (o := HO.dK (kvs.map hK)) np
    have gp : upd Hx p (HO.dK (kvs.map hK)) p = some (.dK (kvs.map hK)) := upd_same
    have hp' : PoolY Hx [D, L, p, Lf] a g ys := hpx.sub fun b hb => by
      simp only [List.mem_cons, List.not_mem_nil, or_false] at hb
      rcases hb with rfl | rfl | rfl | rfl
      · exact .inl hS.1
      · exact .inl hS.2.1
      · exact .inr np
      · exact .inl hS.2.2.2
    have hDp := hDx.kp (Kp.same (S := []) sp) (fun z => nomatch z) (fun z => nomatch z)
    have nIp : I ∉ [D, L, p, Lf] := fun z => by
      simp only [List.mem_cons, List.not_mem_nil, or_false] at z
      rcases z with z | z | z | z
      · exact nI (by rw [z]; simp)
      · exact nI (by rw [z]; simp)
      · rw [z, np] at gI; cases gI
      · exact nI (by rw [z]; simp)
    have nhp : h ∉ [D, L, p, Lf] := fun z => by
      simp only [List.mem_cons, List.not_mem_nil, or_false] at z
      rcases z with z | z | z | z
      · exact nh (by rw [z]; simp)
      · exact nh (by rw [z]; simp)
      · rw [z, np] at gh; cases gh
      · exact nhL z
    have ecr : cB (r' + 1) = cB r := by rw [er]
    have gL' := sp _ _ gLx
    have gI' := sp _ _ gI
    refine ⟨D, L, a, p, Lf, I, [D, L, p, Lf], m, g, z0, z1, wd', tm', ys, rfl, hDp, by rw [ecr]; exact hm, hp'.kp (Kp.same sp), ⟨by simp, by simp, by simp, by simp⟩, ⟨⟨kvs, gp, nd, sub⟩⟩, gL', nL, c0, c1, gI', nIp, c2, c3, fun Hd ty blk l0' l1' cd hDd hhd gLd tdd okd d1 d2 d3 d4 => ?_⟩
    rw [ecr] at hDd
    have c' : Ch [D, L, Lf] Hx Hd := ((Ch.same sp).trans cd).lessS fun b hb => by
      simp only [List.mem_cons, List.not_mem_nil, or_false] at hb
      rcases hb with rfl | rfl | rfl | rfl
      · exact .inl (by simp)
      · exact .inl (by simp)
      · exact .inr np
      · exact .inl (by simp)
    exact qq Hd ty blk l0' l1' c' hDd ((hhx.at (sp _)).kp cd.kp nhp) gLd tdd okd d1 d2 d3 d4
  refine ⟨_, (pss_cons (ps_set (i := 5) sc__law_body.nd rfl (.inl rfl) (pe_lst pa_nil))
      (pss_cons (ps_for PassesOwn.never rfl (pi_range1 (by rfl) T.z_range (pa_cons (pe_op op_addE pe_int (pe_call G1 hr1 (by rfl) D1.m D1.F.kp D1.b .nil pass0 (pa_cons (pv 0) (pa_cons (pe_ix ix_list (pv 4) pe_int (fun _ _ => rfl)) pa_nil)))) pa_nil)) (pg_name (i := 6) sc__law_body.nd rfl (.inl rfl))
      (pss_cons (ps_set (i := 7) sc__law_body.nd rfl (.inl rfl) (pe_call G1 hr1 (by rfl) D1.m D1.F.kp D1.b .nil pass0 (pa_cons (pv 0) (pa_cons pe_int pa_nil))))
      (pss_one (ps_if (PW.pt (pw_and (pt_cmpR op_gt (pe_ix ix_list (pv 3) pe_int (fun _ _ => rfl)) pe_int (nomark _)) (pw_and1 (pt_cmpR op_ge (pe_ix ix_list (pv 3) pe_int (fun _ _ => rfl)) (pe_ix ix_list (pv 4) pe_int (fun _ _ => rfl)) (nomark _)))))
      (pss_cons (ps_asg (pe_tup (pa_cons (pe_op op_subE (pe_ix ix_list (pv 3) pe_int (fun _ _ => rfl)) pe_int) (pa_cons (pe_op op_subE (pe_ix ix_list (pv 3) pe_int (fun _ _ => rfl)) (pe_ix ix_list (pv 4) pe_int (fun _ _ => rfl))) pa_nil))) (pg_tup rfl (pgs_cons (pg_sub (pv 3) pe_int set_list) (pgs_cons (pg_sub (pv 3) pe_int set_list) pgs_nil))))
      (pss_cons (ps_set (i := 8) sc__law_body.nd rfl (.inl rfl) (pe_op op_cat (pe_lc (own := [("_law_name", 13)]) (by rfl) sc__law_body.nd (pi_list (pe_callB (call_sortedD (by rfl)) (by rfl) z_sorted (by decide +kernel) (pa_cons (pv 2) pa_nil))) (blkOk_by (N := n__law_body) (sc := defScope s__law_body) (by decide +kernel)) (fun _ _ _ _ _ => (pg_name (i := 13) sc__law_body.nd rfl (.inl rfl))) (fun _ _ _ _ _ => pts_one (pt_val (pe_dget (hu_of hr) (pv 2) (pv 13) (fun _ _ => rfl)))) (fun _ _ _ _ _ => (pv 13))) (pe_slice sl_list (pe_ix ix_list (pv 1) pe_int (fun _ _ => rfl)) po_none (po_some pe_int))))
      (pss_one (ps_weak (tw := twEl D L a h Lf Sh S g wd tm r ys) (ps_if (PW.pt (pw_and (pt_cmpR op_eq (pv 7) pe_int (nomark _)) (pw_and1 (pt_cmpR op_gt (pe_ix ix_list (pv 4) pe_int (fun _ _ => rfl)) pe_int (nomark _)))))
      (pss_cons (ps_par (i := 9) (j := 10) (by rfl) sc__law_body.nd rfl rfl (by decide) rfl rfl (pa_cons (pe_call G3 hr3 (by rfl) D3.m D3.F.kp D3.b .nil pass0 (pa_cons (pv 0) (pa_cons (pv 1) (pa_cons (pv 8) pa_nil)))) (pa_cons (pe_lst (pa_cons pe_int (pa_cons (pe_op op_subE (pe_ix ix_list (pv 4) pe_int (fun _ _ => rfl)) pe_int) (pa_cons (pe_ix ix_list (pv 4) pe_int (fun _ _ => rfl)) pa_nil)))) pa_nil)) (by rfl))
      (pss_cons (ps_par (i := 11) (j := 7) (by rfl) sc__law_body.nd rfl rfl (by decide) rfl rfl (pa_cons (pe_call GB hr (by rfl) mB F.kp bB .nil pass0 (pa_cons (pv 0) (pa_cons (pv 1) (pa_cons (pe_callTy call_dictD (by rfl) z_dict (by decide +kernel) (pa_cons (pv 2) pa_nil)) (pa_cons (pv 3) (pa_cons (pv 10) pa_nil)))))) (pa_cons (pe_call G1 hr1 (by rfl) D1.m D1.F.kp D1.b .nil pass0 (pa_cons (pv 0) (pa_cons pe_int pa_nil))) pa_nil)) (by rfl))
      (pss_one (ps_expr (pe_bm PySem.F.plainAttrs_list PySem.F.slot_list_append PySem.F.type_list_append mt_append (pv 5) (pa_cons (pe_tup (pa_cons pe_str (pa_cons (pv 9) (pa_cons (pv 11) (pa_cons (pe_ifExp (pt_cmpR op_eq (pv 7) pe_int (nomark _)) (pe_call GB hr (by rfl) mB F.kp bB .nil pass0 (pa_cons (pv 0) (pa_cons (pv 1) (pa_cons (pe_callTy call_dictD (by rfl) z_dict (by decide +kernel) (pa_cons (pv 2) pa_nil)) (pa_cons (pv 3) (pa_cons (pv 10) pa_nil)))))) (pe_tup pa_nil)) pa_nil))))) pa_nil))))))
      (pss_one (ps_weak (tw := twEl D L a h Lf Sh S g wd tm r ys) (ps_if (PW.pt (pw_and (pt_cmpR op_eq (pv 7) pe_int (nomark _)) (pw_and1 (pt_cmpR op_gt (pe_ix ix_list (pv 4) pe_int (fun _ _ => rfl)) pe_int (nomark _)))))
      (pss_cons (ps_set (i := 12) sc__law_body.nd rfl (.inl rfl) (pe_call G2 hr2 (by rfl) D2.m D2.F.kp D2.b .nil pass0 (pa_cons (pv 0) (pa_cons (pe_lst (pa_cons pe_int (pa_cons pe_int (pa_cons pe_int (pa_cons pe_int (pa_cons pe_int (pa_cons pe_int pa_nil))))))) pa_nil))))
      (pss_cons (ps_set (i := 10) sc__law_body.nd rfl (.inl rfl) (pe_lst (pa_cons pe_int (pa_cons (pe_op op_subE (pe_ix ix_list (pv 4) pe_int (fun _ _ => rfl)) pe_int) (pa_cons (pe_op op_mul (pe_ix ix_list (pv 4) pe_int (fun _ _ => rfl)) (pv 12)) pa_nil)))))
      (pss_one (ps_expr (pe_bm PySem.F.plainAttrs_list PySem.F.slot_list_append PySem.F.type_list_append mt_append (pv 5) (pa_cons (pe_tup (pa_cons pe_str (pa_cons (pv 12) (pa_cons (pe_call GB hr (by rfl) mB F.kp bB .nil pass0 (pa_cons (pv 0) (pa_cons (pv 1) (pa_cons (pe_callTy call_dictD (by rfl) z_dict (by decide +kernel) (pa_cons (pv 2) pa_nil)) (pa_cons (pv 3) (pa_cons (pv 10) pa_nil)))))) pa_nil)))) pa_nil))))))
      (pss_one (ps_weak (tw := twEl D L a h Lf Sh S g wd tm r ys) (ps_expr (pe_bm PySem.F.plainAttrs_list PySem.F.slot_list_append PySem.F.type_list_append mt_append (pv 5) (pa_cons (pe_call G4 hr4' (by rfl) D4.m D4.F.kp D4.b .nil pass0 (pa_cons (pv 0) (pa_cons (pv 1) (pa_cons (pv 2) pa_nil)))) pa_nil)))
 (fun Dn σ H2 hx => by
        obtain ⟨R, O, m, z0, z1, kk, way, acc, x9, x10, x11, x12, x13, rfl, hD, hm, hp, hh, gL, gSh, gR, la, nR, b0, b1, tO, q⟩ := id hx
        refine ⟨_, rfl, .inl ⟨rfl, _, SqL.of gR⟩, .ref D, rfl, .ref a, rfl, .ref h, rfl, D, L, a, h, S, _, g, ys, rfl, hD, by omega, hp, ⟨hS.1, hS.2.1, hS.2.2.1⟩, hh, fun Hd v act cd hDd hhd tdv an => ?_⟩
        have m3 : ∀ b ∈ [D, L, h], b ∈ [D, L, h, Lf] := fun b hb => by
          simp only [List.mem_cons, List.not_mem_nil, or_false] at hb ⊢
          rcases hb with rfl | rfl | rfl <;> simp
        have nL3 : Lf ∉ [D, L, h] := fun z => by
          simp only [List.mem_cons, List.not_mem_nil, or_false] at z
          rcases z with z | z | z
          · exact nL (by rw [z]; simp)
          · exact nL (by rw [z]; simp)
          · exact nhL z.symm
        have nR3 : R ∉ [D, L, h] := fun z => nR (m3 _ z)
        exact ⟨R, acc, _, rfl, rfl, cd.kp _ _ nR3 gR, lt_line (by omega), q Hd v (.act act) z0 z1 _ _ _ _ _ _ _ (cd.mono m3) (hDd.mono (by omega)) hhd (cd.kp _ _ nL3 gL) tdv (by cases r <;> exact an) (by show ((1 : Nat) : Int) + z0 ≤ z0 + 1; omega) b0.1 (by show 1 * tm + z1 ≤ z1 + tm; omega) ⟨b1.1, by omega⟩⟩))))
 (fun Dn σ H2 hx => by
        obtain ⟨R, O, m, z0, z1, kk, way, acc, x9, x10, x11, x12, x13, rfl, hD, hm, hp, hh, gL, gSh, gR, la, nR, b0, b1, tO, q⟩ := id hx
        refine ⟨_, rfl, rfl, _, rfl, ite2 (fun _ => ?_) (fun _ => hx)⟩
        refine ⟨_, rfl, Sh, _, _, _, rfl, rfl, SqL.of gSh, atI_nat (j := 1) rfl, _, _, rfl, rfl, _, rfl, ite2 (fun hc => ?_) (fun _ => hx)⟩
        have hc : 0 < (r : Int) := of_decide_eq_true hc
        obtain ⟨r', er⟩ : ∃ r', r = r' + 1 := ⟨r - 1, by omega⟩
        refine ⟨.ref D, rfl, line1000 (Nat.le_of_ble_eq_true rfl), fun l nl => ?_⟩
        have hl : l ∉ [D, L] := by simpa using hD.neD nl
        have s7 := Same.up (o := HO.lst [V.int 0, V.int 1, V.int 2, V.int 2, V.int 3, V.int 3]) nl
        have hD7 := hD.kp (Kp.same (S := []) s7) (fun z => nomatch z) (fun z => nomatch z)
        refine ⟨D, L, _, .ref l, rfl, hD7, by omega, .inl ⟨l, _, rfl, .inl ⟨SqL.of upd_same, hl⟩, Nat.le_of_ble_eq_true rfl, Nat.le_of_ble_eq_true rfl, fun H8 y8 k8 hD8 hy8 => ?_⟩⟩
        obtain ⟨c, rfl, c0, c3⟩ : ∃ c : Int, y8 = .int c ∧ 0 ≤ c ∧ c ≤ 3 := by
          simp only [List.mem_cons, List.not_mem_nil, or_false] at hy8
          rcases hy8 with rfl | rfl | rfl | rfl | rfl | rfl
          · exact ⟨0, rfl, by decide, by decide⟩
          · exact ⟨1, rfl, by decide, by decide⟩
          · exact ⟨2, rfl, by decide, by decide⟩
          · exact ⟨2, rfl, by decide, by decide⟩
          · exact ⟨3, rfl, by decide, by decide⟩
          · exact ⟨3, rfl, by decide, by decide⟩
        have cc : Ch [D, L] H2 H8 := (Ch.same s7).trans (deck_ch hD7 hD8 k8)
        have nS : Sh ∉ [D, L] := fun z => nSh (by
          simp only [List.mem_cons, List.not_mem_nil, or_false] at z ⊢
          rcases z with z | z <;> simp [z])
        have gShc := cc.kp _ _ nS gSh
        have gLc := cc.kp _ _ nL gL
        show tSeq _ _ _ [some (.ref D), some (.ref a), some (.ref h), some (.ref Lf), some (.ref Sh), some (.ref R), some (.int kk), some (.int way), some (.ref O), x9, x10, x11, some (.int c), x13] H8
        have hmul : 0 ≤ tm * c ∧ tm * c ≤ 1000 := by
          have h2 : tm * c ≤ 200 * 3 := Int.mul_le_mul (by omega) c3 c0 (by decide)
          exact ⟨Int.mul_nonneg bt.1 c0, by omega⟩
        refine ⟨_, rfl, Sh, _, _, _, rfl, rfl, SqL.of gShc, atI_nat (j := 1) rfl, _, _, rfl, rfl, fun zz ezz => ⟨_, rfl, Sh, _, _, _, rfl, rfl, SqL.of gShc, atI_nat (j := 2) rfl, _, rfl, _, _, rfl, rfl, .inl ⟨by omega, by omega⟩, line1000 (Nat.le_of_ble_eq_true rfl), fun I nI => ?_⟩⟩
        have ez : zz = (r' : Int) := by omega
        rw [ez]
        have sI := Same.up (o := HO.lst [V.int 4, V.int (r' : Int), V.int (tm * c)]) nI
        have gI : upd H8 I (HO.lst [V.int 4, V.int (r' : Int), V.int (tm * c)]) I = some (.lst [V.int 4, V.int (r' : Int), V.int (tm * c)]) := upd_same
        have nI' : I ∉ [D, L, Lf] := fun z => by
          simp only [List.mem_cons, List.not_mem_nil, or_false] at z
          have z2 := hD8.neD nI
          rcases z with z | z | z
          · simp [z] at z2
          · simp [z] at z2
          · rw [z, gLc] at nI; cases nI
        dsimp only [gName]
        show tDrop _ _ [some (.ref D), some (.ref a), some (.ref h), some (.ref Lf), some (.ref Sh), some (.ref R), some (.int kk), some (.int way), some (.ref O), x9, some (.ref I), x11, some (.int c), x13] (upd H8 I (HO.lst [V.int 4, V.int (r' : Int), V.int (tm * c)]))
        generalize upd H8 I (HO.lst [V.int 4, V.int (r' : Int), V.int (tm * c)]) = H1 at sI gI ⊢
        have hD1 := hD8.kp (Kp.same (S := []) sI) (fun z => nomatch z) (fun z => nomatch z)
        have c1 : Ch [D, L, Lf] H2 H1 := (cc.mono (fun b hb => by simp at hb; rcases hb with rfl | rfl <;> simp)).trans (Ch.same sI)
        have nh3 : h ∉ [D, L, Lf] := fun z => by
          simp only [List.mem_cons, List.not_mem_nil, or_false] at z
          rcases z with z | z | z
          · exact nh (by rw [z]; simp)
          · exact nh (by rw [z]; simp)
          · exact nhL z
        have s3S : ∀ b ∈ [D, L, Lf], b ∈ S := fun b hb => by
          simp only [List.mem_cons, List.not_mem_nil, or_false] at hb
          rcases hb with rfl | rfl | rfl
          · exact hS.1
          · exact hS.2.1
          · exact hS.2.2.2
        have nR3 : R ∉ [D, L, Lf] := fun z => nR (by
          simp only [List.mem_cons, List.not_mem_nil, or_false] at z ⊢
          rcases z with z | z | z <;> simp [z])
        have m3 : ∀ b ∈ [D, L, Lf], b ∈ [D, L, h, Lf] := fun b hb => by
          simp only [List.mem_cons, List.not_mem_nil, or_false] at hb ⊢
          rcases hb with rfl | rfl | rfl <;> simp
        have gR1 := c1.kp _ _ nR3 gR
        refine ⟨_, rfl, .inl ⟨rfl, _, SqL.of gR1⟩, _, rfl, .ref D, rfl, .ref a, rfl, bodyQ H1 _ I z0 z1 4 (tm * c) r' _ er hD1 (by omega) (hp.kp (c1.kp.mono s3S)) (hh.kp c1.kp nh3) (sI _ _ gLc) gI nI' ⟨b0.1, by omega⟩ ⟨b1.1, by omega⟩ ⟨by decide, by decide⟩ hmul fun Hd ty blk x0 x1 cd hDd hhd gLd tdb hbk hsz f0 hwb f1 => ⟨line1000 (Nat.le_of_ble_eq_true rfl), fun t3 n3 => ?_⟩⟩
        have s3 := Same.up (o := HO.tup [V.str "repeat", V.int c, V.ref ty]) n3
        have c3' : Ch [D, L, Lf] H2 (upd Hd t3 (.tup [.str "repeat", .int c, .ref ty])) := c1.trans (cd.trans (Ch.same s3))
        have hDg := hDd.kp (Kp.same (S := []) s3) (fun z => nomatch z) (fun z => nomatch z)
        have tdv : TD (upd Hd t3 (.tup [.str "repeat", .int c, .ref ty])) (.ref t3) (Sta.rep c.toNat blk).data := by
          refine .tup upd_same (.cons (.str _) (.cons ?_ (.cons (TD.ch (Ch.same (S := []) s3) _ _ tdb) .nil)))
          rw [show V.int c = V.int ((c.toNat : Nat) : Int) by rw [Int.toNat_of_nonneg c0]]
          exact .int _
        have ew : (c : Int) * wtB blk * tm = wtB blk * (tm * c) := by rw [Int.mul_comm c, Int.mul_assoc, Int.mul_comm c]
        exact ⟨R, acc, _, rfl, rfl, c3'.kp _ _ nR3 gR, lt_line (by omega), q _ _ (.rep c.toNat blk) x0 x1 _ _ _ _ _ _ _ (c3'.mono m3) (hDg.mono (by omega)) (hh.kp c3'.kp nh3) (s3 _ _ gLd) tdv (by rw [er]; exact ⟨by omega, hbk⟩) (by show ((1 + sizeB blk : Nat) : Int) + x0 ≤ z0 + 1; push_cast; omega) f0
          (by show (1 + ((c.toNat : Nat) : Int) * wtB blk) * tm + x1 ≤ z1 + tm; rw [Int.toNat_of_nonneg c0, Int.add_mul, Int.one_mul, ew]; omega) ⟨by omega, by omega⟩⟩))))
 (fun Dn σ H2 hx => by
        obtain ⟨R, O, m, z0, z1, kk, way, acc, x9, x10, x11, x12, x13, rfl, hD, hm, hp, hh, gL, gSh, gR, la, nR, b0, b1, tO, q⟩ := id hx
        refine ⟨_, rfl, rfl, _, rfl, ite2 (fun _ => ?_) (fun _ => hx)⟩
        refine ⟨_, rfl, Sh, _, _, _, rfl, rfl, SqL.of gSh, atI_nat (j := 1) rfl, _, _, rfl, rfl, _, rfl, ite2 (fun hc => ?_) (fun _ => hx)⟩
        have hc : 0 < (r : Int) := of_decide_eq_true hc
        obtain ⟨r', er⟩ : ∃ r', r = r' + 1 := ⟨r - 1, by omega⟩
        refine ⟨.ref D, rfl, .ref a, rfl, .ref O, rfl, D, L, a, O, [D, L], _, g, rfl, hD, by omega, (hp.sub fun b hb => .inl (sDL b hb)).toQ, ⟨by simp, by simp⟩, tO, fun Hc v tt kc hDc tdv tok => ?_⟩
        have cc := deck_ch hD hDc kc
        have nS : Sh ∉ [D, L] := fun z => nSh (by
          simp only [List.mem_cons, List.not_mem_nil, or_false] at z ⊢
          rcases z with z | z <;> simp [z])
        have gShc := kc _ _ nS gSh
        refine ⟨_, rfl, Sh, _, _, _, rfl, rfl, SqL.of gShc, atI_nat (j := 1) rfl, _, _, rfl, rfl, fun zz ezz => ⟨_, rfl, Sh, _, _, _, rfl, rfl, SqL.of gShc, atI_nat (j := 2) rfl, line1000 (Nat.le_of_ble_eq_true rfl), fun I nI => ⟨_, _, rfl, ?_⟩⟩⟩
        have ez : zz = (r' : Int) := by omega
        rw [ez]
        have sI := Same.up (o := HO.lst [V.int 3, V.int (r' : Int), V.int tm]) nI
        have gI : upd Hc I (HO.lst [V.int 3, V.int (r' : Int), V.int tm]) I = some (.lst [V.int 3, V.int (r' : Int), V.int tm]) := upd_same
        have nI' : I ∉ [D, L, Lf] := fun z => by
          simp only [List.mem_cons, List.not_mem_nil, or_false] at z
          have z2 := hDc.neD nI
          have z3 := kc _ _ nL gL
          rcases z with z | z | z
          · simp [z] at z2
          · simp [z] at z2
          · rw [z, z3] at nI; cases nI
        generalize upd Hc I (HO.lst [V.int 3, V.int (r' : Int), V.int tm]) = H1 at sI gI ⊢
        have hD1 := hDc.kp (Kp.same (S := []) sI) (fun z => nomatch z) (fun z => nomatch z)
        have c1 : Ch [D, L, Lf] H2 H1 := (cc.mono (fun b hb => by simp at hb; rcases hb with rfl | rfl <;> simp)).trans (Ch.same sI)
        have nh3 : h ∉ [D, L, Lf] := fun z => by
          simp only [List.mem_cons, List.not_mem_nil, or_false] at z
          rcases z with z | z | z
          · exact nh (by rw [z]; simp)
          · exact nh (by rw [z]; simp)
          · exact nhL z
        have s3S : ∀ b ∈ [D, L, Lf], b ∈ S := fun b hb => by
          simp only [List.mem_cons, List.not_mem_nil, or_false] at hb
          rcases hb with rfl | rfl | rfl
          · exact hS.1
          · exact hS.2.1
          · exact hS.2.2.2
        have nR3 : R ∉ [D, L, Lf] := fun z => nR (by
          simp only [List.mem_cons, List.not_mem_nil, or_false] at z ⊢
          rcases z with z | z | z <;> simp [z])
        have m3 : ∀ b ∈ [D, L, Lf], b ∈ [D, L, h, Lf] := fun b hb => by
          simp only [List.mem_cons, List.not_mem_nil, or_false] at hb ⊢
          rcases hb with rfl | rfl | rfl <;> simp
        have gL1 : H1 Lf = some (.lst [.int z0, .int z1]) := sI _ _ (kc _ _ nL gL)
        have td1 := TD.ch (Ch.same (S := []) sI) _ _ tdv
        show tSeq _ _ _ [some (.ref D), some (.ref a), some (.ref h), some (.ref Lf), some (.ref Sh), some (.ref R), some (.int kk), some (.int way), some (.ref O), some v, some (.ref I), x11, x12, x13] H1
        refine ⟨.ref D, rfl, .ref a, rfl, bodyQ H1 _ I z0 z1 3 tm r' _ er hD1 (by omega) (hp.kp (c1.kp.mono s3S)) (hh.kp c1.kp nh3) gL1 gI nI' ⟨b0.1, by omega⟩ ⟨b1.1, by omega⟩ ⟨by decide, by decide⟩ bt fun Hd ty by1 y0 y1 cd hDd hhd gLd tdy hby hszy f0 hwy f1 => ?_⟩
        refine ⟨.ref D, rfl, D, L, _, 2, rfl, hDd, by omega, by decide, by decide, fun He w2 ke hDe u0 u1 => ⟨_, _, rfl, ?_⟩⟩
        have ce := deck_ch hDd hDe ke
        have c2 : Ch [D, L, Lf] H2 He := c1.trans (cd.trans (ce.mono (fun b hb => by simp at hb; rcases hb with rfl | rfl <;> simp)))
        have gRe := c2.kp _ _ nR3 gR
        have gIe : He I = some (.lst [V.int 3, V.int (r' : Int), V.int tm]) := (cd.kp.trans (ke.mono (fun b hb => by simp at hb; rcases hb with rfl | rfl <;> simp))) _ _ nI' gI
        have gLe := ke _ _ nL gLd
        have tdv2 := TD.ch ce _ _ (TD.ch cd _ _ td1)
        have tdy2 := TD.ch ce _ _ tdy
        refine ⟨_, rfl, .inl ⟨rfl, _, SqL.of gRe⟩, _, rfl, _, rfl, _, rfl, rfl, _, rfl, ite2 (fun _ => ?_) (fun _ => ?_)⟩
        · refine ⟨.ref D, rfl, .ref a, rfl, bodyQ He _ I y0 y1 3 tm r' _ er hDe (by omega) (hp.kp (c2.kp.mono s3S)) (hh.kp c2.kp nh3) gLe gIe nI' ⟨by omega, by omega⟩ ⟨by omega, by omega⟩ ⟨by decide, by decide⟩ bt fun Hf tn bn x0 x1 cf hDf hhf gLf tdn hbn hszn h0' hwn h1' => ⟨line1000 (Nat.le_of_ble_eq_true rfl), fun t3 n3 => ?_⟩⟩
          have s3 := Same.up (o := HO.tup [V.str "if", v, V.ref ty, V.ref tn]) n3
          have c3 : Ch [D, L, Lf] H2 (upd Hf t3 (.tup [.str "if", v, .ref ty, .ref tn])) := c2.trans (cf.trans (Ch.same s3))
          have hDg := hDf.kp (Kp.same (S := []) s3) (fun z => nomatch z) (fun z => nomatch z)
          have cfg : Ch [D, L, Lf] He (upd Hf t3 (.tup [.str "if", v, .ref ty, .ref tn])) := cf.trans (Ch.same s3)
          exact ⟨R, acc, _, rfl, rfl, c3.kp _ _ nR3 gR, lt_line (by omega), q _ _ (.cond tt by1 bn) x0 x1 _ _ _ _ _ _ _ (c3.mono m3) (hDg.mono (by omega)) (hh.kp c3.kp nh3) (s3 _ _ gLf)
            (.tup upd_same (.cons (.str _) (.cons (TD.ch cfg _ _ tdv2) (.cons (TD.ch cfg _ _ tdy2) (.cons (TD.ch (Ch.same (S := []) s3) _ _ tdn) .nil))))) (by rw [er]; exact ⟨tok, hby, hbn⟩) (by show ((1 + (sizeB by1 + sizeB bn) : Nat) : Int) + x0 ≤ z0 + 1; push_cast; omega) h0'
            (by show (1 + (wtB by1 + wtB bn)) * tm + x1 ≤ z1 + tm; rw [Int.add_mul, Int.add_mul, Int.one_mul]; omega) ⟨by omega, by omega⟩⟩
        · refine ⟨Nat.zero_le _, fun tn ntn => ⟨line1000 (Nat.le_of_ble_eq_true rfl), fun t3 n3 => ?_⟩⟩
          have sn := Same.up (o := HO.tup []) ntn
          have gn : upd He tn (HO.tup []) tn = some (.tup []) := upd_same
          generalize upd He tn (HO.tup []) = Hf at sn gn n3 ⊢
          have s3 := Same.up (o := HO.tup [V.str "if", v, V.ref ty, V.ref tn]) n3
          have snn := Same.trans sn s3
          have c3 : Ch [D, L, Lf] H2 (upd Hf t3 (.tup [.str "if", v, .ref ty, .ref tn])) := c2.trans (Ch.same snn)
          have hDg := hDe.kp (Kp.same (S := []) snn) (fun z => nomatch z) (fun z => nomatch z)
          exact ⟨R, acc, _, rfl, rfl, c3.kp _ _ nR3 gR, lt_line (by omega), q _ _ (.cond tt by1 []) y0 y1 _ _ _ _ _ _ _ (c3.mono m3) (hDg.mono (by omega)) (hh.kp c3.kp nh3) (snn _ _ gLe)
            (.tup upd_same (.cons (.str _) (.cons (TD.ch (Ch.same (S := []) snn) _ _ tdv2) (.cons (TD.ch (Ch.same (S := []) snn) _ _ tdy2) (.cons (.tup (s3 _ _ gn) .nil) .nil))))) (by rw [er]; exact ⟨tok, hby, (fun _ z => nomatch z)⟩) (by show ((1 + (sizeB by1 + 0) : Nat) : Int) + y0 ≤ z0 + 1; push_cast; omega) f0
            (by show (1 + (wtB by1 + 0)) * tm + y1 ≤ z1 + tm; rw [Int.add_mul, Int.add_mul, Int.one_mul]; omega) ⟨by omega, by omega⟩⟩)))))
      pss_nil))))
      (pss_one (ps_ret (pe_callTy call_tuple_of (by rfl) z_tuple (by decide +kernel) (pa_cons (pv 5) pa_nil)))))), ?_⟩
  obtain ⟨C, eC⟩ : ∃ C, C = 45 + 2 * cB r := ⟨_, rfl⟩
  have ec : cB (r + 1) = 1 + 12 * (45 + 2 * cB r) := rfl
  rw [ec, ← eC] at hn q
  refine ⟨Nat.zero_le _, fun R nR => ?_⟩
  have s1 := Same.up (o := HO.lst []) nR
  have gR1 : upd H R (HO.lst []) R = some (.lst []) := upd_same
  have nR' : R ∉ [D, L] := by simpa using hD.neD nR
  have nRL : Lf ≠ R := fun z => by rw [z, nR] at gL; cases gL
  have nRS : Sh ≠ R := fun z => by rw [z, nR] at gSh; cases gSh
  have nRh : h ≠ R := fun z => by
    obtain ⟨kvs, e, _⟩ := hh.ex
    rw [z, nR] at e
    cases e
  have nR4 : R ∉ [D, L, h, Lf] := fun z => by
    simp only [List.mem_cons, List.not_mem_nil, or_false] at z
    rcases z with z | z | z | z
    · exact nR' (by rw [z]; simp)
    · exact nR' (by rw [z]; simp)
    · exact nRh z.symm
    · exact nRL z.symm
  have nSR : Sh ∉ [D, L, h, Lf, R] := fun z => by
    simp only [List.mem_cons, List.not_mem_nil, or_false] at z
    rcases z with z | z | z | z | z
    · exact nSh (by rw [z]; simp)
    · exact nSh (by rw [z]; simp)
    · exact nSh (by rw [z]; simp)
    · exact nSh (by rw [z]; simp)
    · exact nRS z
  have hD1 := hD.kp (Kp.same (S := []) s1) (fun z => nomatch z) (fun z => nomatch z)
  have gL1 := s1 _ _ gL
  have gSh1 := s1 _ _ gSh
  have hh1 := hh.at (s1 _)
  generalize upd H R (HO.lst []) = H1 at s1 gR1 hD1 gL1 gSh1 hh1 ⊢
  show tSeq _ _ _ [some (.ref D), some (.ref a), some (.ref h), some (.ref Lf), some (.ref Sh), some (.ref R), none, none, none, none, none, none, none, none] H1
  have s2L : ∀ b ∈ [D, L], b ∈ [D, L, h, Lf, R] := fun b hb => by
    simp only [List.mem_cons, List.not_mem_nil, or_false] at hb ⊢
    rcases hb with rfl | rfl <;> simp
  have sS : ∀ b ∈ [D, L, h, Lf], b ∈ S := fun b hb => by
    simp only [List.mem_cons, List.not_mem_nil, or_false] at hb
    rcases hb with rfl | rfl | rfl | rfl
    · exact hS.1
    · exact hS.2.1
    · exact hS.2.2.1
    · exact hS.2.2.2
  refine ⟨.ref D, rfl, _, rfl, Sh, _, _, _, rfl, rfl, SqL.of gSh1, atI_nat (j := 0) rfl, D, L, n, wd, rfl, hD1, by omega, by omega, by omega, fun H2 mm k2 hD2 m0 m1 => ⟨1, mm, rfl, rfl, fun m em => ⟨m, rfl, by omega, by omega, for_range (lo := 0) (n := m.toNat) (fun j σ H' => Ch [D, L, h, Lf, R] H1 H' ∧ Deck H' D L (n + 1 + j * C) ∧ HeldQ H' h ys ∧ ∃ (acc : List V) (blk : List Sta) (l0' l1' : Int) (x6 x7 x8 x9 x10 x11 x12 x13 : Option V), H' R = some (.lst acc) ∧ TDs H' acc (blkData blk) ∧ H' Lf = some (.lst [.int l0', .int l1']) ∧ (∀ s ∈ blk, StaOk r s) ∧ ((sizeB blk : Nat) : Int) + l0' ≤ l0 ∧ 0 ≤ l0' ∧ wtB blk * tm + l1' ≤ l1 ∧ (0 ≤ l1' ∧ l1' ≤ 200) ∧ blk.length ≤ j ∧
      σ = [some (.ref D), some (.ref a), some (.ref h), some (.ref Lf), some (.ref Sh), some (.ref R), x6, x7, x8, x9, x10, x11, x12, x13])
    ⟨(deck_ch hD1 hD2 k2).mono s2L, hD2.mono (by omega), hh1.kp k2 nh, [], [], l0, l1, none, none, none, none, none, none, none, none, k2 _ _ nR' gR1, .nil, k2 _ _ nL gL1, (fun _ z => nomatch z), (by show ((0 : Nat) : Int) + l0 ≤ l0; omega), b0.1, (by show (0 : Int) * tm + l1 ≤ l1; omega), b1, Nat.zero_le _, rfl⟩ ?_ ?_⟩⟩⟩
  · rintro j σ H' hj ⟨ch, hD', hh', acc, blk, l0', l1', x6, x7, x8, x9, x10, x11, x12, x13, gR, td, gL', hb, hs, c0, hw, c1, lb, rfl⟩
    have hj12 : j < 12 := by omega
    have hC : (j + 1) * C ≤ 12 * C := Nat.mul_le_mul_right C hj12
    have e1 : (j + 1) * C = j * C + C := Nat.succ_mul _ _
    refine ⟨.ref D, rfl, D, L, _, 12, rfl, hD', by omega, by decide, by decide, fun Ha way ka hDa w0 w1 => ?_⟩
    show tSeq _ _ _ [some (.ref D), some (.ref a), some (.ref h), some (.ref Lf), some (.ref Sh), some (.ref R), some (.int (0 + (j : Int))), some (.int way), x8, x9, x10, x11, x12, x13] Ha
    have ca := deck_ch hD' hDa ka
    have gRa := ka _ _ nR' gR
    have gLa := ka _ _ nL gL'
    have tda := TDs.ch ca _ _ td
    have cha : Ch [D, L, h, Lf, R] H1 Ha := ch.trans (ca.mono s2L)
    have gSa := cha.kp _ _ nSR gSh1
    have hha := hh'.kp ka nh
    have la : acc.length ≤ 12 := by rw [td.len, blkData_eq, List.length_map]; omega
    have no : ∀ (H'' : Hp), H'' = Ha → Ch [D, L, h, Lf, R] H1 H'' ∧ Deck H'' D L (n + 1 + (j + 1) * C) ∧ HeldQ H'' h ys ∧ ∃ (acc : List V) (blk : List Sta) (l0' l1' : Int) (y6 y7 y8 y9 y10 y11 y12 y13 : Option V), H'' R = some (.lst acc) ∧ TDs H'' acc (blkData blk) ∧ H'' Lf = some (.lst [.int l0', .int l1']) ∧ (∀ s ∈ blk, StaOk r s) ∧ ((sizeB blk : Nat) : Int) + l0' ≤ l0 ∧ 0 ≤ l0' ∧ wtB blk * tm + l1' ≤ l1 ∧ (0 ≤ l1' ∧ l1' ≤ 200) ∧ blk.length ≤ j + 1 ∧
        [some (.ref D), some (.ref a), some (.ref h), some (.ref Lf), some (.ref Sh), some (.ref R), some (.int (0 + (j : Int))), some (.int way), x8, x9, x10, x11, x12, x13] = [some (.ref D), some (.ref a), some (.ref h), some (.ref Lf), some (.ref Sh), some (.ref R), y6, y7, y8, y9, y10, y11, y12, y13] := fun H'' e => by
      rw [e]
      exact ⟨cha, hDa.mono (by omega), hha, acc, blk, l0', l1', _, _, _, _, _, _, _, _, gRa, tda, gLa, hb, hs, c0, hw, c1, by omega, rfl⟩
    refine ⟨_, rfl, Lf, _, _, _, rfl, rfl, SqL.of gLa, atI_nat (j := 0) rfl, _, _, rfl, rfl, _, rfl, ite2 (fun h0 => ?_) (fun _ => iteF (no _ rfl))⟩
    have h0 : 0 < l0' := of_decide_eq_true h0
    refine ⟨_, rfl, Lf, _, _, _, rfl, rfl, SqL.of gLa, atI_nat (j := 1) rfl, _, rfl, Sh, _, _, _, rfl, rfl, SqL.of gSa, atI_nat (j := 2) rfl, _, _, rfl, rfl, _, rfl, ite2 (fun h1 => ?_) (fun _ => no _ rfl)⟩
    have h1 : tm ≤ l1' := of_decide_eq_true h1
    clear no
    refine ⟨_, rfl, Lf, _, _, _, rfl, rfl, SqL.of gLa, atI_nat (j := 0) rfl, _, _, rfl, rfl, fun z0 ez0 => ⟨_, rfl, Lf, _, _, _, rfl, rfl, SqL.of gLa, atI_nat (j := 1) rfl, _, rfl, Sh, _, _, _, rfl, rfl, SqL.of gSa, atI_nat (j := 2) rfl, _, _, rfl, rfl, fun z1 ez1 => ⟨line1000 (Nat.le_of_ble_eq_true rfl), fun tt ntt => ?_⟩⟩⟩
    have sT := Same.up (o := HO.tup [V.int z0, V.int z1]) ntt
    refine ⟨tt, _, rfl, SqT.of upd_same, rfl, _, _, rfl, _, rfl, Lf, _, _, _, rfl, rfl, sT _ _ gLa, rfl, _, _, rfl, _, rfl, Lf, _, _, _, rfl, rfl, upd_same, rfl, rfl, ?_⟩
    generalize hHb : upd (upd (upd Ha tt _) Lf _) Lf _ = Hb
    have gLb : Hb Lf = some (.lst [.int z0, .int z1]) := by rw [← hHb]; exact upd_same
    have cb : Ch [Lf] Ha Hb := by
      rw [← hHb]
      exact ((Ch.same sT).put (by simp) (sT _ _ gLa) (fun xs z => by cases z)).put (by simp) upd_same (fun xs z => by cases z)
    clear hHb
    have gRb := cb.kp _ _ (by simpa using Ne.symm nRL) gRa
    have hDb := hDa.kp cb.kp (by simp at nL ⊢; exact Ne.symm nL.1) (by simp at nL ⊢; exact Ne.symm nL.2)
    have tdb := TDs.ch cb _ _ tda
    have hhb := hha.kp cb.kp (by simpa using nhL)
    have chb : Ch [D, L, h, Lf, R] H1 Hb := cha.trans (cb.mono (fun b hb => by simp at hb; simp [hb]))
    have cHb : Ch [D, L, h, Lf] H Hb := ((Ch.same s1).trans chb).lessS fun b hb => by
      simp only [List.mem_cons, List.not_mem_nil, or_false] at hb
      rcases hb with rfl | rfl | rfl | rfl | rfl
      · exact .inl (by simp)
      · exact .inl (by simp)
      · exact .inl (by simp)
      · exact .inl (by simp)
      · exact .inr nR
    have poolb : PoolY Hb S a g ys := hp.kp (cHb.kp.mono sS)
    have gSb := chb.kp _ _ nSR gSh1
    clear gLa gRa tda hha gSa cha
    -- the names that are held
    obtain ⟨kvs, gh, nd, sub⟩ := id hhb.ex
    have hln := nodup_le nd (fun y hy => by
      obtain ⟨p, hp, e⟩ := List.mem_map.mp hy
      rw [← e]; exact sub p hp)
    rw [List.length_map] at hln
    have hyl := hp.l
    refine ⟨_, rfl, h, _, kvs.map (·.1), rfl, .inl gh, by rw [List.map_map, List.map_map]; rfl, by rw [List.length_map]; omega, fun us p2 perm srt np2 => ?_⟩
    have s2 := Same.up (o := HO.lst (us.map V.str)) np2
    have g2 : upd Hb p2 (HO.lst (us.map V.str)) p2 = some (.lst (us.map V.str)) := upd_same
    generalize upd Hb p2 (HO.lst (us.map V.str)) = H2' at s2 g2 ⊢
    have hh2 := hhb.at (s2 _)
    refine ⟨p2, rfl, ⟨_, SqL.of g2⟩, fun O nO => lc_olds hh2 hyl.2 hp.nm g2 (fun kvs' gh' => ?_) nO (fun _ => rfl) (fun _ => rfl) (fun _ => rfl) fun H3 os s3 gO lo so => ?_⟩
    · have e := s2 _ _ gh
      rw [e] at gh'
      have e2 : kvs.map hK = kvs'.map hK := by injection gh' with e; injection e
      have e3 : kvs.map (·.1) = kvs'.map (·.1) := by
        have := congrArg (List.map fun p : Key × V => match p.1 with | .inr x => x | .inl _ => ("" : Str)) e2
        rw [List.map_map, List.map_map] at this
        exact this
      rw [← e3]
      exact perm
    have s03 := Same.trans s2 s3
    have pool3 := poolb.kp (Kp.same s03)
    obtain ⟨N, Fa, Wd, ga, gN, nN, tF, tW⟩ := id pool3.ex
    refine ⟨_, rfl, a, _, _, _, rfl, rfl, SqL.of ga, atI_nat (j := 0) rfl, _, rfl, N, _, rfl, SqL.of gN, fun p4 np4 => ?_⟩
    have e4 : cutV (ys.map V.str) none (some 1) = (ys.take 1).map V.str := by rw [show (some (1 : Int)) = some ((1 : Nat) : Int) from rfl, cut_take, List.map_take]
    rw [e4]
    have s4 := Same.up (o := HO.lst ((ys.take 1).map V.str)) np4
    have g4 : upd H3 p4 (HO.lst ((ys.take 1).map V.str)) p4 = some (.lst ((ys.take 1).map V.str)) := upd_same
    have gO4 := s4 _ _ gO
    refine ⟨O, p4, os.map V.str, (ys.take 1).map V.str, rfl, rfl, gO4, g4, by rw [List.length_map, List.length_map, List.length_take]; exact line1000 (by omega), fun O2 nO2 => ?_⟩
    rw [← List.map_append]
    have s5 := Same.up (o := HO.lst ((os ++ ys.take 1).map V.str)) nO2
    have g5 : upd (upd H3 p4 (HO.lst ((ys.take 1).map V.str))) O2 (HO.lst ((os ++ ys.take 1).map V.str)) O2 = some (.lst ((os ++ ys.take 1).map V.str)) := upd_same
    have nO2' : O2 ∉ [D, L] := by simpa using ((((hDb.kp (Kp.same (S := []) s03) (fun z => nomatch z) (fun z => nomatch z)).kp (Kp.same (S := []) s4) (fun z => nomatch z) (fun z => nomatch z)).neD nO2))
    have sb5 := Same.trans s03 (Same.trans s4 s5)
    generalize upd (upd H3 p4 (HO.lst ((ys.take 1).map V.str))) O2 (HO.lst ((os ++ ys.take 1).map V.str)) = H5 at s5 g5 sb5 ⊢
    have hD5 := hDb.kp (Kp.same (S := []) sb5) (fun z => nomatch z) (fun z => nomatch z)
    have c5 : Ch [D, L, h, Lf, R] H1 H5 := chb.trans (Ch.same sb5)
    have td5 := TDs.ch (Ch.same (S := []) sb5) _ _ tdb
    refine ⟨R, O2, n + 1 + j * C + 1, z0, z1, _, way, acc, x9, x10, x11, x12, _, rfl, hD5, by omega, poolb.kp (Kp.same sb5), hhb.at (sb5 _), sb5 _ _ gLb, sb5 _ _ gSb, sb5 _ _ gRb, by omega, nR4, ⟨by omega, by omega⟩, ⟨by omega, by omega⟩, ⟨⟨os ++ ys.take 1, g5, fun y hy => ?_, by rw [List.length_append, List.length_take]; omega, by rw [List.length_append, List.length_take]; omega⟩, nO2'⟩, ?_⟩
    · rcases List.mem_append.mp hy with hy | hy
      · exact hp.nm y (so y hy)
      · exact hp.nm y (List.mem_of_mem_take hy)
    · intro Hd v sta l0'' l1'' y7 y8 y9 y10 y11 y12 y13 cd hDd hhd gLd tdv ok hsz d0 hwt d1
      have gRd := cd.kp _ _ nR4 (sb5 _ _ gRb)
      have c6 : Ch [R] Hd (upd Hd R (.lst (acc ++ [v]))) := (Ch.refl _ _).put (by simp) gRd (fun xs z => by cases z)
      refine ⟨c5.trans ((cd.mono (fun b hb => by simp only [List.mem_cons, List.not_mem_nil, or_false] at hb ⊢; rcases hb with rfl | rfl | rfl | rfl <;> simp)).trans (c6.mono (fun b hb => by simp at hb; simp [hb]))), (hDd.kp c6.kp (by simp at nR' ⊢; exact Ne.symm nR'.1) (by simp at nR' ⊢; exact Ne.symm nR'.2)).mono (by omega), hhd.kp c6.kp (by simpa using nRh), _, blk ++ [sta], l0'', l1'', _, _, _, _, _, _, _, _, upd_same, ?_, ?_, ?_, ?_, d0, ?_, d1, by rw [List.length_append]; exact Nat.succ_le_succ lb, rfl⟩
      · rw [blk_snoc]
        exact (TDs.ch c6 _ _ (TDs.ch cd _ _ td5)).snoc (TD.ch c6 _ _ tdv)
      · rw [upd_ne nRL]
        exact gLd
      · intro s hs
        rcases List.mem_append.mp hs with hs | hs
        · exact hb s hs
        · rw [List.mem_singleton.mp hs]
          exact ok
      · rw [sizeB_snoc]
        push_cast
        omega
      · rw [wtB_snoc, Int.add_mul]
        omega
  · rintro σ H' ⟨ch, hD', hh', acc, blk, l0', l1', x6, x7, x8, x9, x10, x11, x12, x13, gR, td, gL', hb, hs, c0, hw, c1, lb, rfl⟩
    have hm12 : m.toNat * C ≤ 12 * C := Nat.mul_le_mul_right C (by omega)
    refine ⟨_, rfl, R, _, rfl, .inl ⟨SqL.of gR, fun t nt => ?_⟩⟩
    have sE := Same.up (o := HO.tup acc) nt
    have cE : Ch [D, L, h, Lf] H (upd H' t (.tup acc)) := ((Ch.same s1).trans (ch.trans (Ch.same sE))).lessS fun b hb => by
      simp only [List.mem_cons, List.not_mem_nil, or_false] at hb
      rcases hb with rfl | rfl | rfl | rfl | rfl
      · exact .inl (by simp)
      · exact .inl (by simp)
      · exact .inl (by simp)
      · exact .inl (by simp)
      · exact .inr nR
    exact q _ t blk l0' l1' cE ((hD'.kp (Kp.same (S := []) sE) (fun z => nomatch z) (fun z => nomatch z)).mono (by omega)) (hh'.at (sE _)) (sE _ _ gL') (.tup upd_same (TDs.ch (Ch.same (S := []) sE) _ _ td)) hb hs c0 hw c1
end
end G

set_option Elab.async false
set_option linter.all false
set_option maxRecDepth 100000
set_option maxHeartbeats 4000000
/-! _law_program: the programs' generator. -/
namespace G
open PySem PySem.Spec PyProof.Rows L2
theorem cat_td {K : PySem.W.Frag} {H : Hp} {a b : Addr} {da db : List PyData} {Q : VK} (ta : TD H (.ref a) (.tuple da)) (tb : TD H (.ref b) (.tuple db)) (hl : da.length + db.length ≤ 1000)
    (q : ∀ H' v, Same H H' → TD H' v (.tuple (da ++ db)) → Q v H') : rCatA K (.ref a) (.ref b) H Q := by
  cases ta with
  | tup ga tda =>
    cases tb with
    | tup gb tdb =>
      rename_i xs ys
      refine ⟨a, b, xs, ys, rfl, rfl, SqT.of ga, SqT.of gb, by rw [tda.len, tdb.len]; exact line1000 hl, fun e => ?_, fun _ e => ?_, fun _ _ p np => ?_⟩
      · have e0 : da = [] := List.eq_nil_of_length_eq_zero (by rw [← tda.len, e]; rfl)
        exact q H _ (Same.refl _) (by rw [e0]; exact .tup gb tdb)
      · have e0 : db = [] := List.eq_nil_of_length_eq_zero (by rw [← tdb.len, e]; rfl)
        exact q H _ (Same.refl _) (by rw [e0, List.append_nil]; exact .tup ga tda)
      · have sp := Same.up (o := HO.tup (xs ++ ys)) np
        exact q _ _ sp (.tup upd_same (TDs.ch (Ch.same (S := []) sp) _ _ (tda.append tdb)))
theorem blk_app (b c : List Sta) : blkData (b ++ c) = blkData b ++ blkData c := by
  rw [blkData_eq, blkData_eq, blkData_eq, List.map_append]
theorem sizeB_app : ∀ b c : List Sta, sizeB (b ++ c) = sizeB b + sizeB c
  | [], c => by show sizeB c = 0 + sizeB c; omega
  | x :: r, c => by
    show x.size + sizeB (r ++ c) = x.size + sizeB r + sizeB c
    rw [sizeB_app r c]; omega
theorem wtB_app : ∀ b c : List Sta, wtB (b ++ c) = wtB b + wtB c
  | [], c => by show wtB c = 0 + wtB c; omega
  | x :: r, c => by
    show wtS x + wtB (r ++ c) = wtS x + wtB r + wtB c
    rw [wtB_app r c]; omega
mutual
theorem wtS_nonneg : ∀ s : Sta, 0 ≤ wtS s
  | .act _ => by show (0 : Int) ≤ 1; decide
  | .cond _ y n => by
    show (0 : Int) ≤ 1 + (wtB y + wtB n)
    have := wtB_nonneg y
    have := wtB_nonneg n
    omega
  | .rep k b => by
    show (0 : Int) ≤ 1 + (k : Int) * wtB b
    have := Int.mul_nonneg (Int.natCast_nonneg k) (wtB_nonneg b)
    omega
theorem wtB_nonneg : ∀ b : List Sta, 0 ≤ wtB b
  | [] => Int.le_refl _
  | s :: r => by
    show (0 : Int) ≤ wtS s + wtB r
    have := wtS_nonneg s
    have := wtB_nonneg r
    omega
end
theorem sizeB_makes : ∀ us : List Str, sizeB (us.map fun u => Sta.act (.make u)) = us.length
  | [] => rfl
  | u :: r => by
    show 1 + sizeB (r.map fun u => Sta.act (.make u)) = r.length + 1
    rw [sizeB_makes r]; omega
theorem wtB_makes : ∀ us : List Str, wtB (us.map fun u => Sta.act (.make u)) = ((us.length : Nat) : Int)
  | [] => rfl
  | u :: r => by
    show 1 + wtB (r.map fun u => Sta.act (.make u)) = ((r.length + 1 : Nat) : Int)
    rw [wtB_makes r]; omega
theorem size_pos : ∀ s : Sta, 1 ≤ s.size
  | .act _ => Nat.le_refl _
  | .cond _ y n => by show 1 ≤ 1 + (sizeB y + sizeB n); omega
  | .rep _ b => by show 1 ≤ 1 + sizeB b; omega
theorem sizeB_len : ∀ b : List Sta, b.length ≤ sizeB b
  | [] => Nat.le_refl _
  | s :: r => by
    show r.length + 1 ≤ s.size + sizeB r
    have := sizeB_len r
    have := size_pos s
    omega
theorem staOk_mono : ∀ {d e : Nat} {s : Sta}, d ≤ e → StaOk d s → StaOk e s
  | d, e, .act a, _, h => by
    cases d <;> cases e <;> exact h
  | 0, e, .cond _ _ _, _, h => h.elim
  | 0, e, .rep _ _, _, h => h.elim
  | d + 1, 0, _, h, _ => absurd h (by omega)
  | d + 1, e + 1, .cond t y n, h, ⟨h1, h2, h3⟩ => ⟨h1, fun s hs => staOk_mono (by omega) (h2 s hs), fun s hs => staOk_mono (by omega) (h3 s hs)⟩
  | d + 1, e + 1, .rep k b, h, ⟨h1, h2⟩ => ⟨h1, fun s hs => staOk_mono (by omega) (h2 s hs)⟩
/-- a comprehension over texts, its items data by each text -/
theorem lc_tds {K : PySem.W.Frag} {σ : L2.St} {k : Nat} {p Dd : Addr} {us : List Str} {H1 : Hp} {Qd : Hp → Prop} {te : TE} (mk : Str → PyData) (gp : H1 p = some (.lst (us.map V.str))) (hl : us.length ≤ 100) (nD : H1 Dd = none)
    (e1 : ∀ x, wipe ((wipe σ [k]).set k (some x)) [k] = wipe σ [k])
    (hte : ∀ u H' (Q : VK), u ∈ us → (∀ H'' v, Same H' H'' → TD H'' v (mk u) → Q v H'') → te ((wipe σ [k]).set k (some (.str u))) H' Q)
    (q : ∀ H' (xs : List V), Same H1 H' → H' Dd = some (.lst xs) → TDs H' xs (us.map mk) → Qd H') :
    ∃ W : Nat → Nat → Hp → Prop, (∃ m, W 0 m (upd H1 Dd (.lst []))) ∧ ∀ i m H, W i m H →
      ((Itl K p).stop i H ∧ Qd H) ∨ ((Itl K p).go i H ∧ ∃ Nx : Hp → Prop, (∀ H', Nx H' → ∃ m', m' < m ∧ W (i + 1) m' H') ∧ ∀ x H', (Itl K p).yld i H x H' → gName k x (wipe σ [k]) H' fun σ2 H2 => wipe σ2 [k] = wipe σ [k] ∧ tYes σ2 H2 fun b H3 =>
        if b = true then te σ2 H3 fun y H4 => ∃ acc, H4 Dd = some (.lst acc) ∧ acc.length < sizeLine ∧ Nx (upd H4 Dd (.lst (acc ++ [y]))) else Nx H3) := by
  have nep : p ≠ Dd := fun z => by rw [z, nD] at gp; cases gp
  refine lc_list (xs := us.map V.str) (fun i H' => Ch [Dd] H1 H' ∧ ∃ acc, H' Dd = some (.lst acc) ∧ TDs H' acc ((us.take i).map mk)) ⟨(Ch.refl _ _).new nD, [], upd_same, .nil⟩ (fun i H' _ h => SqL.of (h.1.kp _ _ (by simpa using nep) gp)) ?_ ?_
  · rintro i x H' hx ⟨ch, acc, gD, td⟩
    rw [List.getElem?_map] at hx
    obtain ⟨u, hu, rfl⟩ := Option.map_eq_some_iff.mp hx
    have hi : i < us.length := (List.getElem?_eq_some_iff.mp hu).1
    refine ⟨e1 _, hte u H' _ (List.mem_of_getElem? hu) fun H'' v s'' tdv => ?_⟩
    have c'' : Ch [Dd] H' H'' := Ch.same s''
    have gD'' := s'' _ _ gD
    have la : acc.length ≤ 100 := by rw [td.len, List.length_map, List.length_take]; omega
    have cu : Ch [Dd] H'' (upd H'' Dd (.lst (acc ++ [v]))) := (Ch.refl _ _).put (by simp) gD'' (fun xs z => by cases z)
    refine ⟨acc, gD'', small1000 (by omega), ch.trans (c''.trans cu), _, upd_same, ?_⟩
    rw [List.take_add_one, hu, Option.toList_some, List.map_append]
    exact (TDs.ch cu _ _ (TDs.ch c'' _ _ td)).snoc (TD.ch cu _ _ tdv)
  · rintro H' ⟨ch, acc, gD, td⟩
    rw [List.length_map, List.take_of_length_le (Nat.le_refl _)] at td
    exact q H' acc (ch.kp.fresh nD).toSame gD td
/-- pairs of a text and True -/
theorem pairs_of {K : PySem.W.Frag} {H : Hp} : ∀ {us : List Str} {xs : List V}, TDs H xs (us.map fun u => PyData.tuple [.str u, .bool true]) → ∃ ps : List Addr, xs = ps.map V.ref ∧ Paired (fun p kv => SqT K H p [kV kv.1, kv.2]) ps (us.map fun u => hK (u, true))
  | [], _, h => by cases h; exact ⟨[], rfl, .nil⟩
  | u :: r, _, h => by
    cases h with
    | cons h1 h2 =>
      obtain ⟨ps, rfl, pp⟩ := pairs_of (K := K) h2
      cases h1 with
      | tup g d =>
        rename_i a xs
        cases d with
        | cons d1 d2 =>
          cases d1
          cases d2 with
          | cons d3 d4 =>
            cases d3
            cases d4
            exact ⟨a :: ps, rfl, .cons (SqT.of g) pp⟩
theorem mergeK_hK (ys : List Str) : ∀ (us : List Str) (kvs : List (Str × Bool)), (kvs.map (·.1)).Nodup → (∀ p ∈ kvs, p.1 ∈ ys) → (∀ u ∈ us, u ∈ ys) →
    ∃ kvs' : List (Str × Bool), mergeK (kvs.map hK) (us.map fun u => hK (u, true)) = kvs'.map hK ∧ (kvs'.map (·.1)).Nodup ∧ ∀ p ∈ kvs', p.1 ∈ ys
  | [], kvs, nd, sub, _ => ⟨kvs, rfl, nd, sub⟩
  | u :: r, kvs, nd, sub, hu => by
    obtain ⟨nd', sub'⟩ := putH_keys (b := true) nd sub (hu u (List.mem_cons_self ..))
    obtain ⟨kvs', e, r1, r2⟩ := mergeK_hK ys r (putH kvs u true) nd' sub' fun v hv => hu v (List.mem_cons_of_mem _ hv)
    refine ⟨kvs', ?_, r1, r2⟩
    rw [← e, ← putK_hK]
    rfl
theorem tds_ints {H : Hp} : ∀ l : List Int, TDs H (l.map V.int) (l.map PyData.int)
  | [] => .nil
  | i :: r => .cons (.int i) (tds_ints r)
def progD (g : Nat) (blk : List Sta) : PyData := .tuple [.int g, .tuple (blkData blk)]
/-- a drawn program and its inputs -/
def spProg (r : Nat) : Sp := fun vs H Q _ => ∃ (D L Sh : Addr) (n : Nat) (wd tm : Int), vs = [.ref D, .ref Sh] ∧ Deck H D L n ∧ n + (cB (r + 1) + cB 3 + 200) < 10 ^ 11 - 400 ∧ H Sh = some (.lst [.int wd, .int (r : Int), .int tm]) ∧ Sh ∉ [D, L] ∧ (1 ≤ wd ∧ wd ≤ 12) ∧ (1 ≤ tm ∧ tm ≤ 1000) ∧
  ∀ (H' : Hp) (v : V) (g : Nat) (blk : List Sta) (ins : List Int), Kp [D, L] H H' → Deck H' D L (n + (cB (r + 1) + cB 3 + 200)) → TD H' v (.tuple [progD g blk, .tuple (ins.map PyData.int)]) → g < 4 → ins.length = g → (∀ i ∈ ins, 0 ≤ i ∧ i < 2) → (∀ s ∈ blk, StaOk (max r 2) s) → sizeB blk ≤ 29 → wtB blk ≤ 190 → Q v H'
section
variable {P : Program} {w : World} {K : PySem.W.Frag} {mg : Str → Option Value} {base : Heap}
abbrev s__law_program : Stmt := top 32
abbrev n__law_program : List Str := ["_law_deck_here", "_law_shape", "_law_words_here", "_law_givens", "_law_names_here", "_law_pool", "_law_held", "_law_rows", "_law_k", "_law_x", "_law_y", "_law_left", "_law_block", "_law_name"]
theorem sc__law_program : FnScope n__law_program ["_law_deck_here", "_law_shape"] (defScope s__law_program) := ⟨rfl, rfl, rfl, by decide +kernel, rfl, by decide +kernel, by decide +kernel⟩
theorem ok_program {f f1 f2 f3 f4 f5 : Addr} {fd fd1 fd2 fd3 fd4 fd5 : FuncData} {r k1 k2 : Nat} (hr4 : r ≤ 4) (hk1 : k1 ≤ 9) (hk2 : k2 ≤ 9) (F : Fun K "_law_program" "_law_program" s__law_program f fd) (T : Bi mg) (z_tuple : mg "tuple" = none) (z_dict : mg "dict" = none)
    (D1 : Df K mg "_law_draw" s__law_draw ["_law_deck_here", "_law_many"] f1 fd1) (G1 : FnOk P w K mg base CX0 1 f1 fd1 ["_law_deck_here", "_law_many"] spDraw)
    (D2 : Df K mg "_law_one" s__law_one ["_law_deck_here", "_law_items"] f2 fd2) (G2 : FnOk P w K mg base CX0 2 f2 fd2 ["_law_deck_here", "_law_items"] (spOne K))
    (D3 : Df K mg "_law_names" s__law_names ["_law_deck_here", "_law_count_here"] f3 fd3) (G3 : FnOk P w K mg base CX0 3 f3 fd3 ["_law_deck_here", "_law_count_here"] (spNms 99))
    (D4 : Df K mg "_law_words" s__law_words ["_law_deck_here", "_law_count_here"] f4 fd4) (G4 : FnOk P w K mg base CX0 3 f4 fd4 ["_law_deck_here", "_law_count_here"] (spNms 4))
    (D5 : Df K mg "_law_body" s__law_body p__law_body f5 fd5) (G5 : FnOk P w K mg base CX0 k1 f5 fd5 p__law_body (spBody (r + 1))) (G6 : FnOk P w K mg base CX0 k2 f5 fd5 p__law_body (spBody 3)) : FnOk P w K mg base CX0 10 f fd ["_law_deck_here", "_law_shape"] (spProg r) := by
  refine F.ok sc__law_program (fun vs H Q E ⟨D, L, Sh, n, wd, tm, ev, _⟩ => by rw [ev]; rfl) (fun cdv A outer s H vs Q E hr ⟨D, L, Sh, n, wd, tm, ev, hD, hn, gSh, nSh, bw, bt, q⟩ => ?_)
  subst ev
  have hr1 : Room 1 _ := hr.mono (by omega)
  have hr2 : Room 2 _ := hr.mono (by omega)
  have hr3 : Room 3 _ := hr.mono (by omega)
  have hr5 : Room k1 _ := hr.mono (by omega)
  have hr6 : Room k2 _ := hr.mono (by omega)
  refine ⟨_, (pss_cons (ps_par (i := 2) (j := 3) (by rfl) sc__law_program.nd rfl rfl (by decide) rfl rfl (pa_cons (pe_call G4 hr3 (by rfl) D4.m D4.F.kp D4.b .nil pass0 (pa_cons (pv 0) (pa_cons pe_int pa_nil))) (pa_cons (pe_call G1 hr1 (by rfl) D1.m D1.F.kp D1.b .nil pass0 (pa_cons (pv 0) (pa_cons pe_int pa_nil))) pa_nil)) (by rfl))
      (pss_cons (ps_set (i := 4) sc__law_program.nd rfl (.inl rfl) (pe_call G3 hr3 (by rfl) D3.m D3.F.kp D3.b .nil pass0 (pa_cons (pv 0) (pa_cons (pe_op op_addE pe_int (pe_call G1 hr1 (by rfl) D1.m D1.F.kp D1.b .nil pass0 (pa_cons (pv 0) (pa_cons pe_int pa_nil)))) pa_nil))))
      (pss_cons (ps_par (i := 5) (j := 6) (by rfl) sc__law_program.nd rfl rfl (by decide) rfl rfl (pa_cons (pe_lst (pa_cons (pe_slice sl_list (pv 4) (po_some pe_int) po_none) (pa_cons (pe_slice sl_list (pv 4) po_none (po_some (pe_op op_addE pe_int (pe_call G1 hr1 (by rfl) D1.m D1.F.kp D1.b .nil pass0 (pa_cons (pv 0) (pa_cons pe_int pa_nil)))))) (pa_cons (pv 2) (pa_cons (pv 3) pa_nil))))) (pa_cons (pe_callTy (call_dictP (by rfl)) (by rfl) z_dict (by decide +kernel) (pa_cons (pe_lc (own := [("_law_name", 13)]) (by rfl) sc__law_program.nd (pi_list (pe_slice sl_list (pv 4) (po_some pe_int) (po_some pe_int))) (blkOk_by (N := n__law_program) (sc := defScope s__law_program) (by decide +kernel)) (fun _ _ _ _ _ => (pg_name (i := 13) sc__law_program.nd rfl (.inl rfl))) (fun _ _ _ _ _ => pts_nil) (fun _ _ _ _ _ => (pe_tup (pa_cons (pv 13) (pa_cons pe_bl pa_nil))))) pa_nil)) pa_nil)) (by rfl))
      (pss_cons (ps_setLc (i := 7) (own := [("_law_name", 13)]) (by rfl) sc__law_program.nd rfl rfl (sw_true rfl rfl rfl (by decide +kernel)) (pi_list (pe_slice sl_list (pv 4) (po_some pe_int) (po_some pe_int))) (blkOk_by (N := n__law_program) (sc := defScope s__law_program) (by decide +kernel)) (fun _ _ _ _ _ => (pg_name (i := 13) sc__law_program.nd rfl (.inl rfl))) (fun _ _ _ _ _ => pts_nil) (fun _ _ _ _ _ => (pe_tup (pa_cons pe_str (pa_cons (pv 13) pa_nil)))))
      (pss_cons (ps_for PassesOwn.never rfl (pi_range1 (by rfl) T.z_range (pa_cons (pe_op op_addE pe_int (pe_call G1 hr1 (by rfl) D1.m D1.F.kp D1.b .nil pass0 (pa_cons (pv 0) (pa_cons pe_int pa_nil)))) pa_nil)) (pg_name (i := 8) sc__law_program.nd rfl (.inl rfl))
      (pss_cons (ps_par (i := 9) (j := 10) (by rfl) sc__law_program.nd rfl rfl (by decide) rfl rfl (pa_cons (pe_call G2 hr2 (by rfl) D2.m D2.F.kp D2.b .nil pass0 (pa_cons (pv 0) (pa_cons (pe_slice sl_list (pv 4) (po_some pe_int) (po_some pe_int)) pa_nil))) (pa_cons (pe_call G2 hr2 (by rfl) D2.m D2.F.kp D2.b .nil pass0 (pa_cons (pv 0) (pa_cons (pe_slice sl_list (pv 4) (po_some pe_int) (po_some pe_int)) pa_nil))) pa_nil)) (by rfl))
      (pss_one (ps_expr (pe_bm PySem.F.plainAttrs_list PySem.F.slot_list_append PySem.F.type_list_append mt_append (pv 7) (pa_cons (pe_tup (pa_cons (pe_call G2 hr2 (by rfl) D2.m D2.F.kp D2.b .nil pass0 (pa_cons (pv 0) (pa_cons (pe_lst (pa_cons pe_str (pa_cons pe_str (pa_cons pe_str pa_nil)))) pa_nil))) (pa_cons (pv 9) (pa_cons (pe_call G2 hr2 (by rfl) D2.m D2.F.kp D2.b .nil pass0 (pa_cons (pv 0) (pa_cons (pe_ix ix_list (pv 5) pe_int (fun _ _ => rfl)) pa_nil))) (pa_cons (pv 10) pa_nil))))) pa_nil))))))
      (pss_cons (ps_set (i := 11) sc__law_program.nd rfl (.inl rfl) (pe_lst (pa_cons (pe_op op_subE pe_int (pe_callB call_len_seq (by rfl) T.z_len (by decide +kernel) (pa_cons (pv 7) pa_nil))) (pa_cons (pe_op op_subE pe_int (pe_callB call_len_seq (by rfl) T.z_len (by decide +kernel) (pa_cons (pv 7) pa_nil))) pa_nil))))
      (pss_cons (ps_set (i := 12) sc__law_program.nd rfl (.inl rfl) (pe_op op_catA (pe_call G5 hr5 (by rfl) D5.m D5.F.kp D5.b .nil pass0 (pa_cons (pv 0) (pa_cons (pv 5) (pa_cons (pv 6) (pa_cons (pv 11) (pa_cons (pv 1) pa_nil)))))) (pe_call G6 hr6 (by rfl) D5.m D5.F.kp D5.b .nil pass0 (pa_cons (pv 0) (pa_cons (pv 5) (pa_cons (pv 6) (pa_cons (pv 11) (pa_cons (pe_lst (pa_cons (pe_ix ix_list (pv 1) pe_int (fun _ _ => rfl)) (pa_cons pe_int (pa_cons pe_int pa_nil)))) pa_nil))))))))
      (pss_one (ps_ret (pe_tup (pa_cons (pe_tup (pa_cons (pv 3) (pa_cons (pe_op op_catA (pe_callTy call_tuple_of (by rfl) z_tuple (by decide +kernel) (pa_cons (pv 7) pa_nil)) (pv 12)) pa_nil))) (pa_cons (pe_callTy call_tuple_of (by rfl) z_tuple (by decide +kernel) (pa_cons (pe_lc (own := [("_law_k", 8)]) (by rfl) sc__law_program.nd (pi_range1 (by rfl) T.z_range (pa_cons (pv 3) pa_nil)) (blkOk_by (N := n__law_program) (sc := defScope s__law_program) (by decide +kernel)) (fun _ _ _ _ _ => (pg_name (i := 8) sc__law_program.nd rfl (.inl rfl))) (fun _ _ _ _ _ => pts_nil) (fun _ _ _ _ _ => (pe_call G1 hr1 (by rfl) D1.m D1.F.kp D1.b .nil pass0 (pa_cons (pv 0) (pa_cons pe_int pa_nil))))) pa_nil)) pa_nil)))))))))))), ?_⟩
  refine ⟨.ref D, rfl, D, L, n, 3, rfl, hD, by omega, by decide, by decide, fun H1 aw ws k1 hD1 naw gw lw hw => ⟨.ref D, rfl, D, L, _, 4, rfl, hD1, by omega, by decide, by decide, fun H2 g k2 hD2 g0 g1 => ⟨_, _, rfl, ?_⟩⟩⟩
  refine ⟨.ref D, rfl, .ref D, rfl, D, L, _, 3, rfl, hD2, by omega, by decide, by decide, fun H3 r3 k3 hD3 r0 r1 => ⟨6, r3, rfl, rfl, fun c ec => ⟨D, L, _, c, rfl, hD3, by omega, by omega, by omega, fun H4 an ys k4 hD4 nan gn ln hn4 => ?_⟩⟩⟩
  have naw' : aw ∉ [D, L] := by simpa using hD.neD naw
  have nan' : an ∉ [D, L] := by simpa using hD3.neD nan
  have k24 : Kp [D, L] H1 H4 := k2.trans (k3.trans k4)
  have gw4 := k24 _ _ naw' gw
  have k04 : Kp [D, L] H H4 := k1.trans k24
  have lys : 6 ≤ ys.length ∧ ys.length ≤ 8 := by omega
  show tSeq _ _ _ [some (.ref D), some (.ref Sh), some (.ref aw), some (.int g), some (.ref an), none, none, none, none, none, none, none, none, none] H4
  -- the pool
  refine ⟨_, rfl, _, rfl, an, _, rfl, SqL.of gn, fun p1 np1 => ?_⟩
  rw [show (some (3 : Int)) = some ((3 : Nat) : Int) from rfl, cut_drop, ← List.map_drop]
  have s5 := Same.up (o := HO.lst ((ys.drop 3).map V.str)) np1
  have g5 : upd H4 p1 (HO.lst ((ys.drop 3).map V.str)) p1 = some (.lst ((ys.drop 3).map V.str)) := upd_same
  have np1' : p1 ∉ [D, L] := by simpa using hD4.neD np1
  have hD5 := hD4.kp (Kp.same (S := []) s5) (fun z => nomatch z) (fun z => nomatch z)
  generalize upd H4 p1 (HO.lst ((ys.drop 3).map V.str)) = H5 at s5 g5 hD5 ⊢
  refine ⟨_, rfl, .ref D, rfl, D, L, _, 3, rfl, hD5, by omega, by decide, by decide, fun H6 r6 k6 hD6 r60 r61 => ⟨1, r6, rfl, rfl, fun c2 ec2 => ⟨_, rfl, an, _, rfl, SqL.of (k6 _ _ nan' (s5 _ _ gn)), fun p2 np2 => ?_⟩⟩⟩
  obtain ⟨cn, ecn⟩ : ∃ cn : Nat, c2 = (cn : Int) := ⟨c2.toNat, by omega⟩
  rw [ecn, cut_take, ← List.map_take]
  have s7 := Same.up (o := HO.lst ((ys.take cn).map V.str)) np2
  have g7 : upd H6 p2 (HO.lst ((ys.take cn).map V.str)) p2 = some (.lst ((ys.take cn).map V.str)) := upd_same
  have np2' : p2 ∉ [D, L] := by simpa using hD6.neD np2
  have hD7 := hD6.kp (Kp.same (S := []) s7) (fun z => nomatch z) (fun z => nomatch z)
  generalize upd H6 p2 (HO.lst ((ys.take cn).map V.str)) = H7 at s7 g7 hD7 ⊢
  refine ⟨_, rfl, _, rfl, line1000 (Nat.le_of_ble_eq_true rfl), fun pl npl => ?_⟩
  have s8 := Same.up (o := HO.lst [V.ref p1, V.ref p2, V.ref aw, V.int g]) npl
  have g8 : upd H7 pl (HO.lst [V.ref p1, V.ref p2, V.ref aw, V.int g]) pl = some (.lst [V.ref p1, V.ref p2, V.ref aw, V.int g]) := upd_same
  have npl' : pl ∉ [D, L] := by simpa using hD7.neD npl
  have hD8 := hD7.kp (Kp.same (S := []) s8) (fun z => nomatch z) (fun z => nomatch z)
  generalize upd H7 pl (HO.lst [V.ref p1, V.ref p2, V.ref aw, V.int g]) = H8 at s8 g8 hD8 ⊢
  have k58 : Kp [D, L] H5 H8 := k6.trans (Kp.same (Same.trans s7 s8))
  have k48 : Kp [D, L] H4 H8 := (Kp.same s5).trans k58
  have gn8 := k48 _ _ nan' gn
  have pool8 : PoolY H8 [D, L] pl g (ys.drop 3) := ⟨⟨p1, p2, aw, g8, k58 _ _ np1' g5, np1', ⟨⟨ys.take cn, s8 _ _ g7, fun y hy => hn4 y (List.mem_of_mem_take hy), by rw [List.length_take]; omega, by rw [List.length_take]; omega⟩, np2'⟩, ⟨⟨ws, k48 _ _ naw' gw4, hw, by omega, by omega⟩, naw'⟩⟩, npl', ⟨g0, by omega⟩, fun y hy => hn4 y (List.mem_of_mem_drop hy), by rw [List.length_drop]; omega⟩
  have k08 : Kp [D, L] H H8 := k04.trans k48
  clear k24 gw4 gw k58 s8 s7 s5 g5 g7 g8 hD5 hD6 hD7 np1 np2 npl k6 k48
  have gSh8 := k08 _ _ nSh gSh
  have e36 : cutV (ys.map V.str) (some 3) (some 6) = ((ys.drop 3).take 3).map V.str := by
    rw [show (some (3 : Int)) = some ((3 : Nat) : Int) from rfl, show (some (6 : Int)) = some ((6 : Nat) : Int) from rfl, cut_mid, ← List.map_drop, ← List.map_take]
  obtain ⟨us, eus⟩ : ∃ us, us = (ys.drop 3).take 3 := ⟨_, rfl⟩
  have lus : us.length = 3 := by rw [eus, List.length_take, List.length_drop]; omega
  have hus : ∀ u ∈ us, u ∈ ys.drop 3 := fun u hu => by rw [eus] at hu; exact List.mem_of_mem_take hu
  have nus : ∀ u ∈ us, Nm u := fun u hu => hn4 u (List.mem_of_mem_drop (hus u hu))
  rw [← eus] at e36
  -- the dict of the names that are held
  refine ⟨_, rfl, _, rfl, _, rfl, an, _, rfl, SqL.of gn8, fun p3 np3 => ?_⟩
  rw [e36]
  have s9 := Same.up (o := HO.lst (us.map V.str)) np3
  have g9 : upd H8 p3 (HO.lst (us.map V.str)) p3 = some (.lst (us.map V.str)) := upd_same
  generalize upd H8 p3 (HO.lst (us.map V.str)) = H9 at s9 g9 ⊢
  refine ⟨p3, rfl, ⟨_, SqL.of g9⟩, fun Dd nDd => lc_tds (fun u => PyData.tuple [.str u, .bool true]) g9 (by omega) nDd (fun _ => rfl) (fun u H' Q' hu qq => ?_) fun H10 xs10 s10 gDd td10 => ?_⟩
  · refine ⟨_, rfl, line1000 (Nat.le_of_ble_eq_true rfl), fun t nt => qq _ _ (Same.up nt) (.tup upd_same (.cons (.str _) (.cons (.bl _) .nil)))⟩
  obtain ⟨ps, eps, pp⟩ := pairs_of (K := K) td10
  rw [eps] at gDd
  obtain ⟨kvs, ek, nd, sub⟩ := mergeK_hK (ys.drop 3) us [] List.nodup_nil (fun _ z => nomatch z) hus
  refine ⟨Dd, ps, us.map fun u => hK (u, true), rfl, SqL.of gDd, pp, fun hd nhd => ⟨_, _, rfl, ?_⟩⟩
  rw [show mergeK [] (us.map fun u => hK (u, true)) = kvs.map hK from ek]
  have s11 := Same.up (o := HO.dK (kvs.map hK)) nhd
  have g11 : upd H10 hd (HO.dK (kvs.map hK)) hd = some (.dK (kvs.map hK)) := upd_same
  have s8a := Same.trans s9 s10
  have nhd8 : H8 hd = none := s8a.free nhd
  have nhd' : hd ∉ [D, L] := by simpa using hD8.neD nhd8
  have nhd0 : H hd = none := k08.none_of nhd8 nhd'
  generalize upd H10 hd (HO.dK (kvs.map hK)) = H11 at s11 g11 ⊢
  have s8b := Same.trans s8a s11
  have hD11 := hD8.kp (Kp.same (S := []) s8b) (fun z => nomatch z) (fun z => nomatch z)
  have held11 : HeldQ H11 hd (ys.drop 3) := ⟨⟨kvs, g11, nd, sub⟩⟩
  have pool11 : PoolY H11 [D, L, hd] pl g (ys.drop 3) := (pool8.sub fun b hb => by
    simp only [List.mem_cons, List.not_mem_nil, or_false] at hb
    rcases hb with rfl | rfl | rfl
    · exact .inl (by simp)
    · exact .inl (by simp)
    · exact .inr nhd8).kp (Kp.same s8b)
  have gn11 := s8b _ _ gn8
  have gSh11 := s8b _ _ gSh8
  have k011 : Kp [D, L] H H11 := k08.trans (Kp.same s8b)
  clear s9 s10 s11 s8a s8b nhd8 nhd nDd gDd td10 pp eps g11 g9 np3 pool8 gn8 gSh8 hD8 k08
  show tSeq _ _ _ [some (.ref D), some (.ref Sh), some (.ref aw), some (.int g), some (.ref an), some (.ref pl), some (.ref hd), none, none, none, none, none, none, none] H11
  -- the rows
  refine ⟨_, rfl, _, rfl, _, rfl, an, _, rfl, SqL.of gn11, fun p4 np4 => ?_⟩
  rw [e36]
  have s12 := Same.up (o := HO.lst (us.map V.str)) np4
  have g12 : upd H11 p4 (HO.lst (us.map V.str)) p4 = some (.lst (us.map V.str)) := upd_same
  generalize upd H11 p4 (HO.lst (us.map V.str)) = H12 at s12 g12 ⊢
  refine ⟨p4, rfl, ⟨_, SqL.of g12⟩, fun R nR => lc_tds (fun u => (Sta.act (.make u)).data) g12 (by omega) nR (fun _ => rfl) (fun u H' Q' hu qq => ?_) fun H13 xs13 s13 gR td13 => ?_⟩
  · exact ⟨_, rfl, line1000 (Nat.le_of_ble_eq_true rfl), fun t nt => qq _ _ (Same.up nt) (.tup upd_same (.cons (.str _) (.cons (.str _) .nil)))⟩
  have nR11 : H11 R = none := s12.free nR
  have nR' : R ∉ [D, L] := by simpa using hD11.neD nR11
  have sR := Same.trans s12 s13
  have hD13 := hD11.kp (Kp.same (S := []) sR) (fun z => nomatch z) (fun z => nomatch z)
  have td13' : TDs H13 xs13 (blkData (us.map fun u => Sta.act (.make u))) := by
    rw [blkData_eq, List.map_map]
    exact td13
  show tSeq _ _ _ [some (.ref D), some (.ref Sh), some (.ref aw), some (.int g), some (.ref an), some (.ref pl), some (.ref hd), some (.ref R), none, none, none, none, none, none] H13
  refine ⟨.ref D, rfl, D, L, _, 3, rfl, hD13, by omega, by decide, by decide, fun H14 r14 k14 hD14 q0 q1 => ⟨3, r14, rfl, rfl, fun m em => ⟨m, rfl, by omega, by omega, for_range (lo := 0) (n := m.toNat) (fun j σ H' => Ch [D, L, R] H13 H' ∧ Deck H' D L (n + 40 + j * 5) ∧ ∃ (acc : List V) (blk : List Sta) (x8 x9 x10 : Option V), H' R = some (.lst acc) ∧ TDs H' acc (blkData blk) ∧ (∀ s ∈ blk, StaOk 0 s) ∧ blk.length = 3 + j ∧ sizeB blk = blk.length ∧ wtB blk = ((blk.length : Nat) : Int) ∧
      σ = [some (.ref D), some (.ref Sh), some (.ref aw), some (.int g), some (.ref an), some (.ref pl), some (.ref hd), some (.ref R), x8, x9, x10, none, none, none])
    ⟨(deck_ch hD13 hD14 k14).mono (fun b hb => by simp at hb; rcases hb with rfl | rfl <;> simp), hD14.mono (by omega), _, us.map (fun u => Sta.act (.make u)), none, none, none, k14 _ _ nR' gR, TDs.ch (deck_ch hD13 hD14 k14) _ _ td13', fun s hs => ?_, by rw [List.length_map, lus], ?_, ?_, rfl⟩ ?_ ?_⟩⟩⟩
  · obtain ⟨u, hu, rfl⟩ := List.mem_map.mp hs
    exact nus u hu
  · rw [List.length_map, sizeB_makes]
  · rw [List.length_map, wtB_makes]
  · rintro j σ H' hj ⟨ch, hD', acc, blk, x8, x9, x10, gR', td, hb, lb, sb, wb, rfl⟩
    have hj6 : j < 6 := by omega
    have c11 : Ch [D, L] H11 H' := ((Ch.same sR).trans ch).lessS fun b hb => by
      simp only [List.mem_cons, List.not_mem_nil, or_false] at hb
      rcases hb with rfl | rfl | rfl
      · exact .inl (by simp)
      · exact .inl (by simp)
      · exact .inr nR11
    have gn' := c11.kp _ _ nan' gn11
    -- x, y
    refine ⟨.ref D, rfl, _, rfl, _, rfl, _, rfl, an, _, rfl, SqL.of gn', fun p5 np5 => ?_⟩
    rw [e36]
    have s5 := Same.up (o := HO.lst (us.map V.str)) np5
    have g5 : upd H' p5 (HO.lst (us.map V.str)) p5 = some (.lst (us.map V.str)) := upd_same
    have n5' : p5 ∉ [D, L] := by simpa using hD'.neD np5
    have hD5 := hD'.kp (Kp.same (S := []) s5) (fun z => nomatch z) (fun z => nomatch z)
    generalize upd H' p5 (HO.lst (us.map V.str)) = Ha at s5 g5 hD5 ⊢
    refine one_in hD5 (by omega) g5 n5' (by omega) (by omega) fun Hb x kb hDb hx => ?_
    refine ⟨.ref D, rfl, _, rfl, _, rfl, _, rfl, an, _, rfl, SqL.of (kb _ _ nan' (s5 _ _ gn')), fun p6 np6 => ?_⟩
    rw [e36]
    have s6 := Same.up (o := HO.lst (us.map V.str)) np6
    have g6 : upd Hb p6 (HO.lst (us.map V.str)) p6 = some (.lst (us.map V.str)) := upd_same
    have n6' : p6 ∉ [D, L] := by simpa using hDb.neD np6
    have hD6 := hDb.kp (Kp.same (S := []) s6) (fun z => nomatch z) (fun z => nomatch z)
    generalize upd Hb p6 (HO.lst (us.map V.str)) = Hc at s6 g6 hD6 ⊢
    refine one_in hD6 (by omega) g6 n6' (by omega) (by omega) fun Hd y kd hDd hy => ⟨_, _, rfl, ?_⟩
    have cd : Ch [D, L] H' Hd := (Ch.same s5).trans ((deck_ch hD5 hDb kb).trans ((Ch.same s6).trans (deck_ch hD6 hDd kd)))
    have gRd := cd.kp _ _ nR' gR'
    dsimp only
    show tDrop _ _ [some (.ref D), some (.ref Sh), some (.ref aw), some (.int g), some (.ref an), some (.ref pl), some (.ref hd), some (.ref R), some (.int (0 + (j : Int))), some (.str x), some (.str y), none, none, none] Hd
    refine ⟨_, rfl, .inl ⟨rfl, _, SqL.of gRd⟩, .ref D, rfl, line1000 (Nat.le_of_ble_eq_true rfl), fun l nl => ?_⟩
    have hl : l ∉ [D, L] := by simpa using hDd.neD nl
    have s7 := Same.up (o := HO.lst [V.str "weak", V.str "weak", V.str "hold"]) nl
    have hD7 := hDd.kp (Kp.same (S := []) s7) (fun z => nomatch z) (fun z => nomatch z)
    refine ⟨D, L, _, .ref l, rfl, hD7, by omega, .inl ⟨l, _, rfl, .inl ⟨SqL.of upd_same, hl⟩, Nat.le_of_ble_eq_true rfl, Nat.le_of_ble_eq_true rfl, fun H8 y8 k8 hD8 hy8 => ?_⟩⟩
    have c8 : Ch [D, L] H' H8 := cd.trans ((Ch.same s7).trans (deck_ch hD7 hD8 k8))
    have pool8 := pool11.kp ((c11.trans c8).kp.mono (fun b hb => by simp at hb; rcases hb with rfl | rfl <;> simp))
    obtain ⟨N, Fa, Wd, ga, gN, nN, tF, tW⟩ := pool8.ex
    refine ⟨_, rfl, .ref D, rfl, _, rfl, pl, _, _, _, rfl, rfl, SqL.of ga, atI_nat (j := 1) rfl, one_tx hD8 (by omega) tF (by decide) ⟨by simp, by simp⟩ fun H9 fl k9 hD9 hf => ⟨_, rfl, line1000 (Nat.le_of_ble_eq_true rfl), fun t nt => ?_⟩⟩
    have st := Same.up (o := HO.tup [y8, V.str x, V.str fl, V.str y]) nt
    have c9 : Ch [D, L] H' (upd H9 t (.tup [y8, V.str x, V.str fl, V.str y])) := c8.trans ((deck_ch hD8 hD9 k9).trans (Ch.same st))
    have gR9 := c9.kp _ _ nR' gR'
    have la : acc.length ≤ 20 := by rw [td.len, blkData_eq, List.length_map]; omega
    have fin : ∀ (sta : Act), TD (upd H9 t (.tup [y8, V.str x, V.str fl, V.str y])) (.ref t) sta.data → sta.nm → Ch [D, L, R] H13 (upd (upd H9 t (.tup [y8, V.str x, V.str fl, V.str y])) R (.lst (acc ++ [.ref t]))) ∧ Deck (upd (upd H9 t (.tup [y8, V.str x, V.str fl, V.str y])) R (.lst (acc ++ [.ref t]))) D L (n + 40 + (j + 1) * 5) ∧ ∃ (acc' : List V) (blk' : List Sta) (y8' y9 y10 : Option V), upd (upd H9 t (.tup [y8, V.str x, V.str fl, V.str y])) R (.lst (acc ++ [.ref t])) R = some (.lst acc') ∧ TDs (upd (upd H9 t (.tup [y8, V.str x, V.str fl, V.str y])) R (.lst (acc ++ [.ref t]))) acc' (blkData blk') ∧ (∀ s ∈ blk', StaOk 0 s) ∧ blk'.length = 3 + (j + 1) ∧ sizeB blk' = blk'.length ∧ wtB blk' = ((blk'.length : Nat) : Int) ∧
        [some (V.ref D), some (.ref Sh), some (.ref aw), some (.int g), some (.ref an), some (.ref pl), some (.ref hd), some (.ref R), some (.int (0 + (j : Int))), some (.str x), some (.str y), none, none, none] = [some (.ref D), some (.ref Sh), some (.ref aw), some (.int g), some (.ref an), some (.ref pl), some (.ref hd), some (.ref R), y8', y9, y10, none, none, none] := fun sta tdv nm => by
      have c10 : Ch [R] (upd H9 t (.tup [y8, V.str x, V.str fl, V.str y])) (upd (upd H9 t (.tup [y8, V.str x, V.str fl, V.str y])) R (.lst (acc ++ [.ref t]))) := (Ch.refl _ _).put (by simp) gR9 (fun xs z => by cases z)
      have hD10 := hD9.kp (Kp.same (S := []) st) (fun z => nomatch z) (fun z => nomatch z)
      refine ⟨ch.trans ((c9.mono (fun b hb => by simp at hb; rcases hb with rfl | rfl <;> simp)).trans (c10.mono (fun b hb => by simp at hb; simp [hb]))), (hD10.kp c10.kp (by simp at nR' ⊢; exact Ne.symm nR'.1) (by simp at nR' ⊢; exact Ne.symm nR'.2)).mono (by omega), _, blk ++ [.act sta], _, _, _, upd_same, ?_, fun s hs => ?_, by rw [List.length_append]; show blk.length + 1 = 3 + (j + 1); omega, ?_, ?_, rfl⟩
      · rw [blk_snoc]
        exact (TDs.ch c10 _ _ (TDs.ch c9 _ _ td)).snoc (TD.ch c10 _ _ tdv)
      · rcases List.mem_append.mp hs with hs | hs
        · exact hb s hs
        · rw [List.mem_singleton.mp hs]
          exact nm
      · rw [sizeB_snoc, sb, List.length_append]
        rfl
      · rw [wtB_snoc, wb, List.length_append]
        show ((blk.length : Nat) : Int) + 1 = ((blk.length + 1 : Nat) : Int)
        omega
    refine ⟨R, acc, _, rfl, rfl, gR9, lt_line (by omega), ?_⟩
    simp only [List.mem_cons, List.not_mem_nil, or_false] at hy8
    rcases hy8 with rfl | rfl | rfl
    · exact fin (.weak x fl y) (.tup upd_same (.cons (.str _) (.cons (.str _) (.cons (.str _) (.cons (.str _) .nil))))) ⟨nus x hx, hf, nus y hy⟩
    · exact fin (.weak x fl y) (.tup upd_same (.cons (.str _) (.cons (.str _) (.cons (.str _) (.cons (.str _) .nil))))) ⟨nus x hx, hf, nus y hy⟩
    · exact fin (.hold x fl y) (.tup upd_same (.cons (.str _) (.cons (.str _) (.cons (.str _) (.cons (.str _) .nil))))) ⟨nus x hx, hf, nus y hy⟩
  · rintro σ H15 ⟨ch, hD15, acc, blk, x8, x9, x10, gR15, td, hb, lb, sb, wb, rfl⟩
    have c11 : Ch [D, L] H11 H15 := ((Ch.same sR).trans ch).lessS fun b hb => by
      simp only [List.mem_cons, List.not_mem_nil, or_false] at hb
      rcases hb with rfl | rfl | rfl
      · exact .inl (by simp)
      · exact .inl (by simp)
      · exact .inr nR11
    have lacc : acc.length = blk.length := by rw [td.len, blkData_eq, List.length_map]
    have gSh15 := c11.kp _ _ nSh gSh11
    have pool15 := pool11.kp (c11.kp.mono (fun b hb => by simp at hb; rcases hb with rfl | rfl <;> simp))
    have held15 := held11.kp c11.kp nhd'
    have k015 : Kp [D, L] H H15 := k011.trans c11.kp
    clear k011 pool11 held11 gSh11 gn11 hD11 hD13 hD14 td13 td13' gR k14 s12 s13 sR c11
    refine ⟨_, rfl, _, _, rfl, .inl (SqL.of gR15), _, _, rfl, rfl, fun z0 ez0 => ⟨_, rfl, _, _, rfl, .inl (SqL.of gR15), _, _, rfl, rfl, fun z1 ez1 => ⟨line1000 (Nat.le_of_ble_eq_true rfl), fun Lf nLf => ?_⟩⟩⟩
    rw [lacc] at ez0 ez1
    have sL := Same.up (o := HO.lst [V.int z0, V.int z1]) nLf
    have gL : upd H15 Lf (HO.lst [V.int z0, V.int z1]) Lf = some (.lst [V.int z0, V.int z1]) := upd_same
    have nLf' : Lf ∉ [D, L] := by simpa using hD15.neD nLf
    have nShL : Sh ∉ [D, L, hd, Lf] := fun z => by
      simp only [List.mem_cons, List.not_mem_nil, or_false] at z
      rcases z with z | z | z | z
      · exact nSh (by rw [z]; simp)
      · exact nSh (by rw [z]; simp)
      · obtain ⟨kv, e, _⟩ := held15.ex
        rw [z, e] at gSh15
        cases gSh15
      · rw [z, nLf] at gSh15; cases gSh15
    have pool16 : PoolY (upd H15 Lf (HO.lst [V.int z0, V.int z1])) [D, L, hd, Lf] pl g (ys.drop 3) := (pool15.sub fun b hb => by
      simp only [List.mem_cons, List.not_mem_nil, or_false] at hb
      rcases hb with rfl | rfl | rfl | rfl
      · exact .inl (by simp)
      · exact .inl (by simp)
      · exact .inl (by simp)
      · exact .inr nLf).kp (Kp.same sL)
    have nRL : R ≠ Lf := fun z => by rw [z, nLf] at gR15; cases gR15
    have nRh : R ≠ hd := fun z => by
      obtain ⟨kv, e, _⟩ := held15.ex
      rw [← z, gR15] at e
      cases e
    have nR4 : R ∉ [D, L, hd, Lf] := fun z => by
      simp only [List.mem_cons, List.not_mem_nil, or_false] at z
      rcases z with z | z | z | z
      · exact nR' (by rw [z]; simp)
      · exact nR' (by rw [z]; simp)
      · exact nRh z
      · exact nRL z
    generalize upd H15 Lf (HO.lst [V.int z0, V.int z1]) = H16 at sL gL pool16 ⊢
    have hD16 := hD15.kp (Kp.same (S := []) sL) (fun z => nomatch z) (fun z => nomatch z)
    show tSeq _ _ _ [some (.ref D), some (.ref Sh), some (.ref aw), some (.int g), some (.ref an), some (.ref pl), some (.ref hd), some (.ref R), x8, x9, x10, some (.ref Lf), none, none] H16
    have s4S : ∀ b ∈ [D, L], b ∈ [D, L, hd, Lf] := fun b hb => by simp at hb; rcases hb with rfl | rfl <;> simp
    refine ⟨.ref D, rfl, _, rfl, _, rfl, _, rfl, _, rfl, D, L, pl, hd, Lf, Sh, [D, L, hd, Lf], _, g, z0, z1, wd, tm, ys.drop 3, rfl, hD16, by omega, pool16, ⟨by simp, by simp, by simp, by simp⟩, held15.at (sL _), gL, nLf', ⟨by omega, by omega⟩, ⟨by omega, by omega⟩, sL _ _ gSh15, nShL, bw, ⟨by omega, bt.2⟩, fun H17 t1 b1 l0' l1' c17 hD17 held17 gL17 td1 ok1 sz1 d0 wt1 d1 => ?_⟩
    -- the second block
    have gSh17 := c17.kp _ _ nShL (sL _ _ gSh15)
    refine ⟨.ref D, rfl, _, rfl, _, rfl, _, rfl, _, rfl, Sh, _, _, _, rfl, rfl, SqL.of gSh17, atI_nat (j := 0) rfl, line1000 (Nat.le_of_ble_eq_true rfl), fun I nI => ?_⟩
    have sI := Same.up (o := HO.lst [V.int wd, V.int 2, V.int 1]) nI
    have gI : upd H17 I (HO.lst [V.int wd, V.int 2, V.int 1]) I = some (.lst [V.int wd, V.int ((2 : Nat) : Int), V.int 1]) := upd_same
    have nI4 : I ∉ [D, L, hd, Lf] := fun z => by
      have z2 := hD17.neD nI
      simp only [List.mem_cons, List.not_mem_nil, or_false] at z
      rcases z with z | z | z | z
      · simp [z] at z2
      · simp [z] at z2
      · obtain ⟨kv, e, _⟩ := held17.ex
        rw [z, e] at nI; cases nI
      · rw [z, gL17] at nI; cases nI
    have pool17 := (pool16.kp c17.kp).kp (Kp.same (S := [D, L, hd, Lf]) sI)
    have hD18 := hD17.kp (Kp.same (S := []) sI) (fun z => nomatch z) (fun z => nomatch z)
    refine ⟨D, L, pl, hd, Lf, I, [D, L, hd, Lf], _, g, l0', l1', wd, 1, ys.drop 3, rfl, hD18, (by show _ + cB 3 < 10 ^ 11 - 200; omega), pool17, ⟨by simp, by simp, by simp, by simp⟩, held17.at (sI _), sI _ _ gL17, nLf', ⟨d0, by omega⟩, d1, gI, nI4, bw, ⟨by decide, by decide⟩, fun H19 t2 b2 m0 m1 c19 hD19 held19 gL19 td2 ok2 sz2 e0 wt2 e1 => ?_⟩
    have hD19 : Deck H19 D L (_ + cB 3) := hD19
    have c16 : Ch [D, L, hd, Lf] H16 H19 := c17.trans ((Ch.same sI).trans c19)
    have td1' := TD.ch ((Ch.same (S := [D, L, hd, Lf]) sI).trans c19) _ _ td1
    have hwb1 := wtB_nonneg b1
    have hwb2 := wtB_nonneg b2
    have hw1 : wtB b1 ≤ wtB b1 * tm := by
      have := Int.mul_le_mul_of_nonneg_left bt.1 hwb1
      omega
    have lb1 := sizeB_len b1
    have lb2 := sizeB_len b2
    refine cat_td td1' td2 (by rw [blkData_eq, blkData_eq, List.length_map, List.length_map]; omega) fun H20 v20 s20 td20 => ?_
    rw [← blk_app] at td20
    have c20 : Ch [D, L, hd, Lf] H16 H20 := c16.trans (Ch.same s20)
    have gR20 := c20.kp _ _ nR4 (sL _ _ gR15)
    have hD20 := hD19.kp (Kp.same (S := []) s20) (fun z => nomatch z) (fun z => nomatch z)
    have tdR := TDs.ch ((Ch.same (S := [D, L, hd, Lf]) sL).trans c20) _ _ td
    dsimp only [gName]
    show tRet _ _ [some (.ref D), some (.ref Sh), some (.ref aw), some (.int g), some (.ref an), some (.ref pl), some (.ref hd), some (.ref R), x8, x9, x10, some (.ref Lf), some v20, none] H20
    have t20 : ∃ a20, v20 = .ref a20 := by
      cases td20 with
      | tup a b => exact ⟨_, rfl⟩
    obtain ⟨a20, rfl⟩ := t20
    refine ⟨_, rfl, _, rfl, R, _, rfl, .inl ⟨SqL.of gR20, fun tr ntr => ⟨_, rfl, ?_⟩⟩⟩
    have sr := Same.up (o := HO.tup acc) ntr
    have tdr : TD (upd H20 tr (.tup acc)) (.ref tr) (.tuple (blkData blk)) := .tup upd_same (TDs.ch (Ch.same (S := []) sr) _ _ tdR)
    refine cat_td tdr (TD.ch (Ch.same (S := []) sr) _ _ td20) (by rw [blkData_eq, blkData_eq, List.length_map, List.length_map, List.length_append]; omega) fun H21 v21 s21 td21 => ⟨line1000 (Nat.le_of_ble_eq_true rfl), fun tp ntp => ?_⟩
    rw [← blk_app] at td21
    have sp := Same.up (o := HO.tup [V.int g, v21]) ntp
    have tdp : TD (upd H21 tp (.tup [V.int g, v21])) (.ref tp) (progD g.toNat (blk ++ (b1 ++ b2))) := by
      refine .tup upd_same (.cons ?_ (.cons (TD.ch (Ch.same (S := []) sp) _ _ td21) .nil))
      rw [show V.int g = V.int ((g.toNat : Nat) : Int) by rw [Int.toNat_of_nonneg g0]]
      exact .int _
    generalize upd H21 tp (.tup [V.int g, v21]) = H22 at sp tdp ⊢
    have s22 := Same.trans sr (Same.trans s21 sp)
    have hD22 := hD20.kp (Kp.same (S := []) s22) (fun z => nomatch z) (fun z => nomatch z)
    -- the inputs
    refine ⟨_, rfl, g, rfl, by omega, by omega, fun a5 na5 => ?_⟩
    have na51 : a5 ∉ [D, L] := by simpa using hD22.neD na5
    refine lc_range (lo := 0) (n := g.toNat) (fun i H' => Ch [a5, D, L] H22 H' ∧ Deck H' D L (n + 40 + m.toNat * 5 + cB (r + 1) + cB 3 + i) ∧ ∃ ins : List Int, H' a5 = some (.lst (ins.map V.int)) ∧ ins.length = i ∧ ∀ x ∈ ins, 0 ≤ x ∧ x < 2) ⟨(Ch.refl _ _).new na5, (hD22.new na5).mono (by omega), [], upd_same, rfl, fun _ z => nomatch z⟩ ?_ ?_
    · rintro i H' hi ⟨ch5, hD', ins, gI', li, bi⟩
      refine ⟨rfl, .ref D, rfl, D, L, _, 2, rfl, hD', by omega, by decide, by decide, fun H'' x kx hDx x0 x1 => ?_⟩
      have cx := deck_ch hD' hDx kx
      have gx := kx _ _ na51 gI'
      refine ⟨_, gx, by rw [List.length_map, li]; exact small1000 (by omega), (ch5.trans (cx.mono fun b hb => List.mem_cons_of_mem _ hb)).put (by simp) gx (fun xs z => by cases z), (hDx.kp (S := [a5]) ((Kp.refl _ _).put (by simp)) (by simp at na51 ⊢; exact Ne.symm na51.1) (by simp at na51 ⊢; exact Ne.symm na51.2)).mono (by omega), ins ++ [x], ?_, by rw [List.length_append, li]; rfl, fun y hy => ?_⟩
      · rw [upd_same, List.map_append]
        rfl
      · rcases List.mem_append.mp hy with hy | hy
        · exact bi y hy
        · rw [List.mem_singleton.mp hy]; exact ⟨x0, x1⟩
    · rintro H23 ⟨ch5, hD23, ins, gI5, li, bi⟩
      have c23 : Ch [D, L] H22 H23 := ch5.lessS fun b hb => by
        simp only [List.mem_cons, List.not_mem_nil, or_false] at hb
        rcases hb with rfl | rfl | rfl
        · exact .inr na5
        · exact .inl (by simp)
        · exact .inl (by simp)
      refine ⟨a5, _, rfl, .inl ⟨SqL.of gI5, fun ti nti => ⟨line1000 (Nat.le_of_ble_eq_true rfl), fun tt ntt => ?_⟩⟩⟩
      have si := Same.up (o := HO.tup (ins.map V.int)) nti
      have stt := Same.up (o := HO.tup [V.ref tp, V.ref ti]) ntt
      have sE := Same.trans si stt
      have tdE := TD.ch (c23.trans (Ch.same sE)) _ _ tdp
      have nLf0 : H Lf = none := k015.none_of nLf nLf'
      have kT : Kp [D, L, hd, Lf] H (upd (upd H23 ti (.tup (ins.map V.int))) tt (.tup [V.ref tp, V.ref ti])) := (k015.mono s4S).trans ((Kp.same sL).trans (c20.kp.trans ((Kp.same s22).trans ((c23.kp.mono s4S).trans (Kp.same sE)))))
      have kE : Kp [D, L] H (upd (upd H23 ti (.tup (ins.map V.int))) tt (.tup [V.ref tp, V.ref ti])) := Kp.fresh (p := hd) (Kp.fresh (p := Lf) (kT.mono fun b hb => by
        simp only [List.mem_cons, List.not_mem_nil, or_false] at hb ⊢
        rcases hb with rfl | rfl | rfl | rfl <;> simp) nLf0) nhd0
      refine q _ _ g.toNat (blk ++ (b1 ++ b2)) ins kE ((hD23.kp (Kp.same (S := []) sE) (fun z => nomatch z) (fun z => nomatch z)).mono (by omega)) ?_ (by omega) (by omega) bi (fun s hs => ?_) ?_ ?_
      · exact .tup upd_same (.cons tdE (.cons (.tup (stt _ _ upd_same) (tds_ints _)) .nil))
      · rcases List.mem_append.mp hs with hs | hs
        · exact staOk_mono (Nat.zero_le _) (hb s hs)
        · rcases List.mem_append.mp hs with hs | hs
          · exact staOk_mono (Nat.le_max_left _ _) (ok1 s hs)
          · exact staOk_mono (Nat.le_max_right _ _) (ok2 s hs)
      · rw [sizeB_app, sizeB_app]
        omega
      · rw [wtB_app, wtB_app]
        omega
end
end G

set_option Elab.async false
set_option linter.all false
set_option maxRecDepth 100000
set_option maxHeartbeats 4000000
/-! C(): a class without an __init__ of its own. -/
namespace G
open PySem PySem.Spec PyProof.Rows L2
structure Mk0 (K : PySem.W.Frag) (C : Addr) : Prop where
  makes : PySem.W.makesIn K C = true
  init : PySem.W.findIn K (.ref C) "__init__" = some (some (.builtin "object.__init__"))
  kp : PySem.W.keepIn K (.ref C) = true
theorem run_make00 {X : Cx} {pins : List (Addr × Obj)} {σ : L2.St} {H : Hp} {s : Shared} {C : Addr} {Q : VK} (M : Mk0 X.K C) (I : Inv X pins σ H s)
    (h : ∀ x dx, H x = none → H dx = none → dx ≠ x → Q (.ref x) (upd (upd H dx (.own x)) x (.ins C dx []))) : wpAny (model X.prog X.w) X.A (call (.ref C) []) (EP X pins σ Q) X.xe s := by
  have I2 := I.made (C := C)
  have hq := h (s.heap.objs.size + 1) s.heap.objs.size (I.hok.fresh (Nat.le_succ _)) (I.hok.fresh (Nat.le_refl _)) (Nat.ne_of_lt (Nat.lt_succ_self _))
  obtain ⟨hp, g, d, t, os⟩ := s
  refine wpAny_call (PySem.W.make_core (PySem.W.makes_of I.kIn M.makes) (PySem.W.looks_findIn I.kIn M.init) (fun self A Q E s _ hq => by rw [F.slot_object_init.bind]; exact wpAny_pure hq) (.inr ⟨rfl, rfl⟩) ?_)
  refine codeAny_call_builtin F.slot_object_init.plain F.entry_object_init (PySem.W.check_slot (owner := "object") (n := "__init__") (by decide +kernel) (by decide +kernel) (fun A' Q' E' s' ext hq' => ?_) (F.args_object_init_1 _) ?_)
  · have hx : s'.heap.get? (hp.objs.size + 1) = some (PySem.W.instObj C hp.objs.size) := ext _ _ (by
      have e : (hp.push PySem.W.emptyDict).objs.size = hp.objs.size + 1 := by simp [Heap.push]
      exact Heap.get?_push_at e.symm rfl)
    refine wpAny_bind (wpAny_typeOf_ref hx ?_)
    exact (PySem.W.makes_of (M := model X.prog X.w) I2.kIn M.makes).top A' Q' E' s' ext hq'
  · exact wpAny_pure ⟨rfl, V.ref (hp.objs.size + 1), _, I2, rfl, hq⟩
def tMake0 (C : Addr) : TE := fun _ H Q => ∀ x dx, H x = none → H dx = none → dx ≠ x → Q (.ref x) (upd (upd H dx (.own x)) x (.ins C dx []))
theorem pe_make00 {X : Cx} {x : Str} {p pos : Pos} {C : Addr} (M : Mk0 X.K C) (hg : Gl X x) (hm : X.mg x = some (.ref C)) (hdb : (x == ("__debug__" : Str)) = false := by decide) : PE X (.Call (.Name x p) [] [] pos) (tMake0 C) := by
  refine ⟨fun pins s σ H Q I h => ?_⟩
  refine wpAny_Call_Name_kw (ld_glob I hg hm ?_ hdb)
  exact PySem.W.callWith_K0 I.kIn M.kp (run_make00 M I h)
end G

set_option Elab.async false
set_option linter.all false
set_option maxRecDepth 100000
set_option maxHeartbeats 4000000
/-! A generator def whose body is one loop that yields once a turn; its consumer may do more than fill a list. -/
namespace G
open PySem PySem.Spec PyProof.Rows L2 GenW
/-- while the generator sleeps: of what stood before, the consumer's own objects alone may change -/
structure Rested (Cs : List Addr) (s s' : Shared) : Prop where
  os : s'.os = s.os
  bare : AllBare s'.gens
  keep : ∀ b o, b ∉ Cs → s.heap.get? b = some o → s'.heap.get? b = some o
  own : ∀ b ∈ Cs, ∃ o, s'.heap.get? b = some o ∧ ∀ v, o.data ≠ .cell v
structure Aloof (X : Cx) (Cs : List Addr) : Prop where
  young : ∀ b ∈ Cs, X.s_0.heap.objs.size ≤ b
  loc : ∀ b ∈ Cs, b ≠ X.env.locals
  cel : ∀ b ∈ Cs, ∀ x c, X.env.cells.lookup x = some c → c ≠ b
  pn : ∀ p ∈ X.pn, p.1 ∉ Cs
theorem wake {X : Cx} {Cs : List Addr} {ip : List (Addr × Obj)} {σ : L2.St} {H : Hp} {s₀ s s' : Shared} (L : Aloof X Cs) (hip : ∀ p ∈ ip, p.1 ∉ Cs) (I : Inv X (ip ++ pinsAt Cs s₀.heap) σ H s) (hs : ∀ b ∈ Cs, ∃ o, s₀.heap.get? b = some o) (R : Rested Cs s s') : Inv X (ip ++ pinsAt Cs s'.heap) σ H s' := by
  have pinned : ∀ b ∈ Cs, H b = none ∧ b ∉ X.fs := fun b hb => by
    obtain ⟨o, e⟩ := hs b hb
    have z := I.pin (b, o) (List.mem_append_right _ (List.mem_append_right _ (mem_pinsAt hb e)))
    exact ⟨z.2.1, z.2.2.2.1⟩
  have I0 : Inv X ip σ H s := I.unpinned
  have apart : ∀ b ∈ Cs, ∀ p ∈ X.pn ++ ip, p.1 ≠ b := fun b hb p hp z => by
    rcases List.mem_append.mp hp with q | q
    · exact L.pn p q (z ▸ hb)
    · exact hip p q (z ▸ hb)
  have off : ∀ {b : Addr} {u : HO}, H b = some u → b ∉ Cs := fun e hb => by
    rw [(pinned _ hb).1] at e
    cases e
  obtain ⟨w1, w2, w3, w4⟩ := R
  obtain ⟨hh, g, d, t, o⟩ := s'
  have eo : o = s.os := w1
  subst eo
  have J : Inv X ip σ H { s with heap := hh, gens := g, drawn := d, toks := t } := I0.step (ch := Cs)
    (fun b hb => ⟨.inr (L.young b hb), L.loc b hb, L.cel b hb, apart b hb⟩)
    (fun b ob _ _ hc e _ => w3 b ob hc e) (fun b ob _ _ hc e _ => ⟨ob.slots, w3 b ob hc e⟩) (fun _ _ _ _ n => n) (fun b ob hc e => ⟨ob, w3 b ob hc e⟩)
    (fun _ _ e => e) (fun _ _ _ e => e) (fun b ps e => ⟨#[], by rw [e]; simp⟩)
    (fun m ⟨ob, es, ep, e, r⟩ => ⟨ob, es, ep, w3 _ ob (fun hb => L.loc _ hb rfl) e, r⟩)
    (fun b u e => (I0.hok b u e).stay (fun c v hc q => w3 c v (by
      rcases hc with z | z
      · rw [z]; exact off e
      · exact off z) q) (fun _ z => z) fun _ _ z => z) w2
  exact J.pinned (fun b hb => ⟨(pinned b hb).1, L.loc b hb, (pinned b hb).2, .inr (L.young b hb), L.cel b hb, apart b hb⟩) w4
/-! ### a for statement in a generator's code -/
section
variable {prog : Program} {w : World} {A : Around} {R : GenEnd} {Y : Protocol} {n : Nat} {s₀ : Shared} {fs : List Frame} {s : Shared} {env : Env}
theorem nofail {α : Type} {t : Sem α} {Q : α → Shared → Prop} {M : Model} {B : Around} {E : Value → Shared → Prop} {s : Shared} (h : wpAny M B t Q (fun _ _ => False) s) : wpAny M B t Q E s := wpAny_mono h (fun _ _ z => z) fun _ _ z => z.elim
theorem seg_turn {tg : Expr} {it : Value} {body : List Stmt} {Kx : Flow → Sem PySem.Fin} (hK : ∀ f, Kx f = (match f with
      | .next | .cont => .pure (.again (.forLoop tg it body [] env))
      | .brk => .pure (.done .next)
      | .ret v => .pure (.done (.ret v))))
    (h : wpAny (model prog w) (A.over (.forLoop tg it body [] env) fs) (pyNext it) (fun r s1 => match r with
      | none => Seg (model prog w) A R Y n s₀ (.block [] env) ((model prog w).den (.block [] env)) fs s1
      | some v => wpAny (model prog w) (A.over (.forLoop tg it body [] env) fs) (letOwnedTupleGo tg it v) (fun _ s2 => wpAny (model prog w) (A.over (.forLoop tg it body [] env) fs) (assign tg env v) (fun _ s3 =>
          ∀ (Hx : Value → Sem PySem.Fin), Seg (model prog w) A R Y n s₀ (.forLoop tg it body [] env) ((execs body env).wrap Kx Hx id id) fs s3) (fun _ _ => False) s2) (fun _ _ => False) s1) (fun _ _ => False) s) :
    Seg (model prog w) A R Y n s₀ (.forLoop tg it body [] env) ((model prog w).den (.forLoop tg it body [] env)) fs s := by
  show Seg _ A R Y n s₀ _ ((forTurn tg it body [] env).onRaise (fun x => do noteFrame x env; theTreesLotGoes x)) fs s
  unfold forTurn
  rw [Sem.onRaise_eq_wrap, Sem.bind_eq_wrap', Sem.wrap_wrap]
  refine seg_wrap (wpAny_standAt ?_)
  rw [Sem.bind_eq_wrap', Sem.wrap_wrap]
  refine seg_wrap (nofail (wpAny_onRaise (wpAny_mono h (fun r s1 h1 => ?_) fun _ _ z => z.elim)))
  cases r with
  | none => exact seg_again rfl h1
  | some v =>
    show Seg _ A R Y n s₀ _ (Sem.wrap _ _ _ _ (letOwnedTupleGo tg it v >>= _)) fs s1
    rw [Sem.bind_eq_wrap', Sem.wrap_wrap]
    refine seg_wrap (nofail (wpAny_mono h1 (fun _ s2 h2 => ?_) fun _ _ z => z))
    rw [Sem.bind_eq_wrap', Sem.wrap_wrap]
    refine seg_wrap (nofail (wpAny_mono h2 (fun _ s3 h3 => ?_) fun _ _ z => z))
    rw [Sem.bind_eq_wrap', Sem.wrap_wrap]
    rw [Sem.wrap_congr (execs body env) _ _ (K' := Kx) (fun f => (by rw [hK f]; cases f <;> rfl)) (fun _ => rfl)]
    exact h3 _
theorem seg_forStmt {M : Model} {c : Code} {K : Flow → Sem PySem.Fin} {Jx : Value → Sem PySem.Fin} {gd : Bool → Bool} {lv : List Value → List Value} {tg iter : Expr} {body : List Stmt} {pos : Pos} (hf : ∀ x, foldedSetIterable iter env x = pure x)
    (h : wpAny M (A.over c fs) (eval iter env) (fun x s1 => wpAny M (A.over c fs) (pyIter x) (fun itv s2 => ∀ p Fx, Seg M A R Y n s₀ (.forLoop tg itv body [] env) (M.den (.forLoop tg itv body [] env))
        (.ret (fun r => ((match r with | .ok f => (.pure f : Sem Flow) | .error e => .raise e).onRaise Fx).wrap K Jx gd lv) none (gd false) (lv []) c p [] :: fs) s2) (fun _ _ => False) s1) (fun _ _ => False) s) :
    Seg M A R Y n s₀ c ((exec (.For tg iter body [] pos) env).wrap K Jx gd lv) fs s := by
  rw [exec_For]
  rw [Sem.bind_eq_wrap', Sem.wrap_wrap]
  refine seg_wrap (wpAny_standAt ?_)
  rw [Sem.bind_eq_wrap', Sem.wrap_wrap]
  refine seg_wrap (nofail (wpAny_mono h (fun x s1 h1 => ?_) fun _ _ z => z))
  rw [hf x]
  rw [Sem.bind_eq_wrap', Sem.wrap_wrap]
  refine seg_wrap (wpAny_pure ?_)
  rw [Sem.bind_eq_wrap', Sem.wrap_wrap]
  refine seg_wrap (wpAny_standAt ?_)
  rw [Sem.bind_eq_wrap', Sem.wrap_wrap]
  refine seg_wrap (nofail (wpAny_holding (wpAny_mono h1 (fun itv s2 h2 => ?_) fun _ _ z => z)))
  exact seg_call fun p => h2 p _
end
end G

set_option Elab.async false
set_option linter.all false
set_option maxRecDepth 100000
set_option maxHeartbeats 4000000
/-! The run of such a generator. -/
namespace G
open PySem PySem.Spec PyProof.Rows L2 GenW
def YG (X : Cx) (Cs : List Addr) (top n : Nat) (R : Nat → V → Hp → Prop) : Protocol := fun m s₀ v s kap => ∃ (i : Nat) (y : V) (σ : L2.St) (H : Hp) (ip : List (Addr × Obj)), m + 1 + i = top ∧ i < n ∧ RelV y v ∧ (∀ p ∈ ip, p.1 ∉ Cs) ∧
  (∀ b ∈ Cs, ∃ o, s₀.heap.get? b = some o) ∧ Inv X (ip ++ pinsAt Cs s₀.heap) σ H s ∧ R i y H ∧ ∀ s', Rested Cs s s' → kap (.send .none) s'
def GD (X : Cx) (Cs : List Addr) (top n : Nat) (Ed : Hp → Prop) : GenEnd := fun m s₀ r s => r = .ok (.ret .none) ∧ ∃ (σ : L2.St) (H : Hp) (ip : List (Addr × Obj)), m + n = top ∧ (∀ b ∈ Cs, ∃ o, s₀.heap.get? b = some o) ∧ Inv X (ip ++ pinsAt Cs s₀.heap) σ H s ∧ Ed H
section
variable {X : Cx} {Cs : List Addr} {A : Around} {top n : Nat} {R : Nat → V → Hp → Prop} {Ed : Hp → Prop}
theorem gen_loop {tg e : Expr} {yp ypos : Pos} {g : TG} {te : TE} {J : It} {it : Addr} {fp : List Addr} {tn : Nat → Heap → Prop} {ip : List (Addr × Obj)} {p0 : Pos} {Fx : Value → Sem Unit} {Ws : Nat → L2.St → Hp → Prop} {K0 : Flow → Sem PySem.Fin} {Jx : Value → Sem PySem.Fin} {bd : List Stmt}
    (hK0 : K0 .next = .pure (.done (.ret .none)))
    (hxe : ∀ e s, ¬ X.xe e s) (hc : X.calm = true) (T : Turn X.prog X.w X.K tg J fp it tn) (hg : PG X tg g) (he : PE X e te) (L : Aloof X Cs) (hip : ∀ p ∈ ip, p.1 ∉ Cs)
    (hA : A.deeper X.env = X.A) (hco : X.env.scope.isCoroutine = false) (hin : interactive X.env = false)
    (hfp : ∀ b ∈ fp, b ≠ X.env.locals ∧ b ∉ X.fs ∧ (b ∈ X.ex ∨ X.s_0.heap.objs.size ≤ b) ∧ (∀ x c, X.env.cells.lookup x = some c → c ≠ b) ∧ (∀ p ∈ X.pn ++ ip, p.1 ≠ b) ∧ b ∉ Cs) (hnt : n ≤ top)
    (step : ∀ i σ H, Ws i σ H → (i = n ∧ J.stop i H ∧ Ed H) ∨ (i < n ∧ J.go i H ∧ ∀ x H', J.yld i H x H' → g x σ H' fun σ2 H2 => te σ2 H2 fun y H3 => R i y H3 ∧ Ws (i + 1) σ2 H3)) :
    ∀ (k i m : Nat) (s₀ s : Shared) (σ : L2.St) (H : Hp), k + i = n → m + i = top → Ws i σ H → Inv X (ip ++ pinsAt Cs s₀.heap) σ H s → tn i s.heap → (∀ b ∈ fp, H b = none) → (∀ b ∈ Cs, ∃ o, s₀.heap.get? b = some o) →
      Seg (model X.prog X.w) A (GD X Cs top n Ed) (YG X Cs top n R) m s₀ (.forLoop tg (.ref it) [.Expr (.Yield (some e) yp) ypos] [] X.env) ((model X.prog X.w).den (.forLoop tg (.ref it) [.Expr (.Yield (some e) yp) ypos] [] X.env))
        [.ret (fun r => ((match r with | .ok f => (.pure f : Sem Flow) | .error e => .raise e).onRaise Fx).wrap K0 Jx id id) none (id false) (id []) (.func bd X.env) p0 []] s := by
  intro k
  have ov : ∀ {kk : Result → Sem PySem.Fin} {c' : Code}, c'.weight = 0 → c'.cUnits = 0 → A.over c' [.ret kk none (id false) (id []) (.func bd X.env) p0 []] = X.A := fun hw hu => (over_loop hw hu).trans (over_func.trans hA)
  have stat : ∀ {s₀ : Shared} {H : Hp}, (∀ b ∈ fp, H b = none) → ∀ b ∈ fp, FpOk X (ip ++ pinsAt Cs s₀.heap) H b := fun {s₀ H} hn b hb => by
    obtain ⟨f1, f2, f3, f4, f5, f6⟩ := hfp b hb
    refine ⟨hn b hb, f1, f2, f3, f4, fun p hp => ?_⟩
    rcases List.mem_append.mp hp with q | q
    · exact f5 p (List.mem_append_left _ q)
    · rcases List.mem_append.mp q with q | q
      · exact f5 p (List.mem_append_right _ q)
      · exact fun z => f6 (z ▸ (of_pinsAt q).1)
  induction k with
  | zero =>
    intro i m s₀ s σ H hi hm hW I st fr hex
    rcases step i σ H hW with ⟨ei, stop, ed⟩ | ⟨lt, _⟩
    · refine seg_turn (Kx := _) (fun f => rfl) ?_
      rw [ov rfl rfl]
      refine nofail (wpAny_mono (T.done X rfl rfl rfl hc i _ s σ H (fun _ _ => False) I (stat fr) st stop) (fun r s1 ⟨hr, I1⟩ => ?_) fun _ _ z => z)
      subst hr
      refine seg_leaf (.ok .next) ?_
      show Seg _ _ _ _ _ _ _ (K0 .next) _ _
      rw [hK0]
      exact seg_end (.ok (.ret .none)) ⟨rfl, σ, H, ip, by omega, hex, I1, ed⟩
    · omega
  | succ k ih =>
    intro i m s₀ s σ H hi hm hW I st fr hex
    rcases step i σ H hW with ⟨ei, _⟩ | ⟨lt, go, nxt⟩
    · omega
    obtain ⟨m, rfl⟩ : ∃ m', m = m' + 1 := ⟨m - 1, by omega⟩
    refine seg_turn (Kx := _) (fun f => rfl) ?_
    rw [ov rfl rfl]
    refine nofail (wpAny_mono (T.item X rfl rfl rfl hc i _ s σ H (fun _ _ => False) I (stat fr) st go) (fun r s1 ⟨u, hr, h1⟩ => ?_) fun _ _ z => z)
    subst hr
    refine nofail (wpAny_mono h1 (fun _ s2 ⟨x, H2, I2, r2, y2, st2, fr2⟩ => ?_) fun _ _ z => z)
    have I2' := I2.pinned (stat fr2) (T.obj _ _ st2)
    refine wpAny_mono (hg.run _ s2 σ H2 x u _ I2' r2 (nxt x H2 y2)) (fun _ s3 ⟨σ3, H3, I3, q3⟩ => ?_) fun e s z => hxe e s z
    intro Hx
    refine seg_execs_cons ?_
    refine seg_Expr_Yield rfl rfl rfl ?_ hco hin
    rw [ov rfl rfl]
    refine wpAny_mono (he.run _ s3 σ3 H3 _ I3 q3) (fun v s4 ⟨y, H4, I4, r4, q4, w4⟩ => ?_) fun e s z => (hxe e s z).elim
    intro kap hk
    have I4' : Inv X ((ip ++ pinsAt fp s2.heap) ++ pinsAt Cs s₀.heap) σ3 H4 s4 := I4.pins_of fun p hp => I4.pin p (List.mem_append_right _ (by
      rcases List.mem_append.mp hp with q | q
      · rcases List.mem_append.mp q with q | q
        · exact List.mem_append_left _ (List.mem_append_left _ q)
        · exact List.mem_append_right _ q
      · exact List.mem_append_left _ (List.mem_append_right _ q)))
    have hip' : ∀ p ∈ ip ++ pinsAt fp s2.heap, p.1 ∉ Cs := fun p hp => by
      rcases List.mem_append.mp hp with q | q
      · exact hip p q
      · exact (hfp _ (of_pinsAt q).1).2.2.2.2.2
    refine ⟨i, y, σ3, H4, _, hm, lt, r4, hip', hex, I4', q4, fun s5 rs => hk .none s5 ?_⟩
    have I5 := wake L hip' I4' hex rs
    have pin5 : ∀ b ∈ fp, ∀ o, s2.heap.get? b = some o → s5.heap.get? b = some o ∧ H4 b = none := fun b hb o eo =>
      let z := I5.pin (b, o) (List.mem_append_right _ (List.mem_append_left _ (List.mem_append_right _ (mem_pinsAt hb eo))))
      ⟨z.1, z.2.1⟩
    refine seg_again rfl (ih (i + 1) m s5 s5 σ3 H4 (by omega) (by omega) w4 (I5.pins_of fun p hp => I5.pin p (List.mem_append_right _ ?_)) (T.keep _ _ _ st2 fun b hb o eo => (pin5 b hb o eo).1) (fun b hb => ?_) fun b hb => ?_)
    · rcases List.mem_append.mp hp with q | q
      · exact List.mem_append_left _ (List.mem_append_left _ q)
      · exact List.mem_append_right _ q
    · obtain ⟨o, eo, _⟩ := T.obj _ _ st2 b hb
      exact (pin5 b hb o eo).2
    · obtain ⟨o, eo, _⟩ := rs.own b hb
      exact ⟨o, eo⟩
end
end G

set_option Elab.async false
set_option linter.all false
set_option maxRecDepth 100000
set_option maxHeartbeats 4000000
/-! Such a generator def's promise. -/
namespace G
open PySem PySem.Spec PyProof.Rows L2 GenW
/-- the context of its body; no exception leaves; pn: the generator's own object -/
def gx (P : Program) (w : World) (K : PySem.W.Frag) (mg : Str → Option Value) (base : Heap) (N : List Str) (qual : Str) (scope : Scope) (f : Addr) (cd : Value) (A : Around) (outer : List Env) (s : Shared) (H : Hp) (pn : List (Addr × Obj)) : Cx :=
  { gcxOf P w K mg base N qual scope f cd A outer s H E0 pn with xe := fun _ _ => False }
theorem gx_inv {P : Program} {w : World} {K : PySem.W.Frag} {mg : Str → Option Value} {base : Heap} {N : List Str} {qual : Str} {scope : Scope} {f : Addr} {cd : Value} {A : Around} {outer : List Env} {s s1 : Shared} {H H' : Hp} {E : XK} {pn pins : List (Addr × Obj)} {σ : L2.St}
    (I : Inv (gcxOf P w K mg base N qual scope f cd A outer s H E []) [] σ H' s1) (h : ∀ p ∈ pn ++ pins, s1.heap.get? p.1 = some p.2 ∧ H' p.1 = none ∧ p.1 ≠ s.heap.objs.size ∧ p.1 ∉ frs outer ∧ ∀ v, p.2.data ≠ .cell v) : Inv (gx P w K mg base N qual scope f cd A outer s H pn) pins σ H' s1 where
  ok := { mod := I.ok.mod, kind := I.ok.kind, glob := I.ok.glob, blt := I.ok.blt, above := I.ok.above, inj := I.ok.inj, has := I.ok.has, cab := I.ok.cab, hd := I.ok.hd, frames := I.ok.frames, stk := I.ok.stk, exf := I.ok.exf, bs := I.ok.bs, bsz := I.ok.bsz, noex := I.ok.noex, exfs := I.ok.exfs, funs := I.ok.funs, frf := I.ok.frf }
  os := I.os
  bare := I.bare
  base := I.base
  loc := I.loc
  cell := I.cell
  free := I.free
  freeC := I.freeC
  pin := h
  hok := I.hok
  len := I.len
/-- an item comes -/
def YItm (P : Program) (w : World) (outer : List Env) (H : Hp) (s : Shared) (Cs : List Addr) (a : Addr) (g n : Nat) (R : Nat → V → Hp → Prop) : Protocol := fun m s₀ v s1 kap => ∃ (i : Nat) (y : V) (H' : Hp), m + 1 + i = n ∧ i < n ∧ RelV y v ∧ R i y H' ∧ s1.os = s.os ∧ AllBare s1.gens ∧ s1.heap.NoLimit ∧ s1.heap.IsGen a g ∧
  Un (frs outer) [] H H' s.heap s1.heap ∧ HOk P w H' s1.heap ∧ (∀ b ∈ Cs, H' b = none ∧ s1.heap.get? b = s₀.heap.get? b) ∧ ∀ s', Rested Cs s1 s' → kap (.send .none) s'
/-- the end comes -/
def YEnd (P : Program) (w : World) (outer : List Env) (H : Hp) (s : Shared) (Cs : List Addr) (n : Nat) (Ed : Hp → Prop) (m : Nat) (s₀ s1 : Shared) : Prop := m + n = n ∧ ∃ H' : Hp, s1.os = s.os ∧ AllBare s1.gens ∧ Un (frs outer) [] H H' s.heap s1.heap ∧ HOk P w H' s1.heap ∧ (∀ b ∈ Cs, H' b = none ∧ s1.heap.get? b = s₀.heap.get? b) ∧ Ed H'
def REn (P : Program) (w : World) (outer : List Env) (H : Hp) (s : Shared) (Cs : List Addr) (n : Nat) (Ed : Hp → Prop) : GenEnd := fun m s₀ r s1 => ((r = .ok (.ret .none) ∨ r = .ok .next) ∧ YEnd P w outer H s Cs n Ed m s₀ s1) ∨ ∃ e, r = .error e ∧ False
/-- a call of it gives a generator that has not begun -/
def Mkd (P : Program) (w : World) (k : Nat) (outer : List Env) (H : Hp) (s : Shared) (n : Nat) (R : Nat → V → Hp → Prop) (Ed : Hp → Prop) (u : Value) (s' : Shared) : Prop :=
  ∃ (a : Addr) (g : Nat) (c : Code), u = .ref a ∧ s.heap.objs.size ≤ a ∧ a < s'.heap.objs.size ∧ s'.heap.IsGen a g ∧ s'.gens[g]? = some (.fresh c) ∧ s'.os = s.os ∧ AllBare s'.gens ∧ s'.heap.NoLimit ∧ (∀ b o, s.heap.get? b = some o → s'.heap.get? b = some o) ∧
    ∀ (A : Around) (Cs : List Addr) (s2 : Shared), Room k A → A.frames = some outer → (∀ b ∈ Cs, s'.heap.objs.size ≤ b) → (∀ b o, s'.heap.get? b = some o → s2.heap.get? b = some o) → (∀ b ∈ Cs, ∃ o, s2.heap.get? b = some o ∧ ∀ v, o.data ≠ .cell v) → s2.os = s.os → AllBare s2.gens →
      Seg (model P w) A (REn P w outer H s Cs n Ed) (YItm P w outer H s Cs a g n R) n s2 c ((model P w).den c) [] s2
abbrev SpY := List V → Hp → Nat → (Nat → V → Hp → Prop) → (Hp → Prop) → Prop
structure GnOk (P : Program) (w : World) (K : PySem.W.Frag) (mg : Str → Option Value) (base : Heap) (k : Nat) (f : Addr) (fd : FuncData) (ps : List Str) (sp : SpY) : Prop where
  len : ∀ vs H n R Ed, sp vs H n R Ed → vs.length = ps.length
  run : ∀ (A : Around) (outer : List Env) (s : Shared) (H : Hp) (args : Args) (us : List Value) (vs : List V) (n : Nat) (R : Nat → V → Hp → Prop) (Ed : Hp → Prop), Room k A → Env0 P w K mg base A outer s H → BindsTo s fd args (ps.zip us) → Vals vs us → sp vs H n R Ed →
    codeAny (model P w) A (.call (.ref f) args) (fun r s' => match r with | .ok (.ret u) => Mkd P w k outer H s n R Ed u s' | _ => False) s
/-- what the body is: one loop, one yield a turn -/
def OneLoop (X : Cx) (bd : List Stmt) (σ0 : L2.St) (H : Hp) (n : Nat) (R : Nat → V → Hp → Prop) (Ed : Hp → Prop) : Prop := ∃ (tg iter e : Expr) (yp ypos pos : Pos) (wi : TI) (g : TG) (te : TE), bd = [.For tg iter [.Expr (.Yield (some e) yp) ypos] [] pos] ∧
  PI X tg iter wi ∧ PG X tg g ∧ PE X e te ∧ (∀ x, foldedSetIterable iter X.env x = pure x) ∧ wi σ0 H fun J H1 => ∃ Ws : Nat → L2.St → Hp → Prop, Ws 0 σ0 H1 ∧
    ∀ i σ H, Ws i σ H → (i = n ∧ J.stop i H ∧ Ed H) ∨ (i < n ∧ J.go i H ∧ ∀ x H', J.yld i H x H' → g x σ H' fun σ2 H2 => te σ2 H2 fun y H3 => R i y H3 ∧ Ws (i + 1) σ2 H3)
theorem gen_def {P : Program} {w : World} {K : PySem.W.Frag} {mg : Str → Option Value} {base : Heap} {x qual : Str} {st : Stmt} {f : Addr} {fd : FuncData} {N ps : List Str} {k : Nat} {sp : SpY} (F : Fun K x qual st f fd) (S : GScope N ps (defScope st))
    (len : ∀ vs H n R Ed, sp vs H n R Ed → vs.length = ps.length)
    (body : ∀ (cdv : Value) (A : Around) (outer : List Env) (s : Shared) (H : Hp) (vs : List V) (n : Nat) (R : Nat → V → Hp → Prop) (Ed : Hp → Prop) (pn : List (Addr × Obj)), Room k (A.deeper (envOfC qual (defScope st) s.heap.objs.size f cdv)) → sp vs H n R Ed →
      OneLoop (gx P w K mg base N qual (defScope st) f cdv A outer s H pn) (defBody st) (start N vs) H n R Ed) : GnOk P w K mg base (k + 1) f fd ps sp := by
  obtain ⟨oc, od, kV, doc, pm, an, cdv, ct, osl, rfl, lk, hcd⟩ := F.ex
  refine ⟨len, fun A outer s H args us vs n R Ed hr e0 hb r hsp => ?_⟩
  have nvs := len _ _ _ _ _ hsp
  have old : ∀ b o, base.get? b = some o → s.heap.get? b = some o := fun b o e => (e0.bs b o e).1
  have kin : K.In s.heap := e0.mod.kin.keeps old
  have nol : s.heap.NoLimit := e0.mod.nolimit.keeps old
  have kinds : ∀ y ∈ ps.zip us, (defScope st).names.lookup y.1 = some .local ∨ ((defScope st).names.lookup y.1 = some .cell ∧
      ((cellsFrom (s.heap.objs.size + 1) (defScope st).names []).lookup y.1).isSome = true) := by
    rintro ⟨z, v⟩ hy
    have hm := (List.of_mem_zip hy).1
    cases S.par z hm with
    | inl q => exact Or.inl q
    | inr q => exact Or.inr ⟨q, PySem.W.cellsFrom_some _ _ _ (Or.inl q)⟩
  refine codeAny_call_generator hr.depth (kin _ _ lk) rfl S.co S.gen rfl (PySem.W.codeRec_of kin hcd) (hb _ _ _ _ ?_)
  refine wpAny_newFunctionEnv_cells S.kind kinds fun env he s1 x1 => ?_
  subst he
  refine ⟨nol.keeps x1.toInCall.keep, ?_⟩
  have grow : ∀ b o, s.heap.get? b = some o → s1.heap.get? b = some o := x1.toInCall.keep
  have above : s.heap.objs.size < s1.heap.objs.size := x1.toInCall.ns.lt
  obtain ⟨os1, gens1⟩ : s1.os = s.os ∧ s1.gens = s.gens := by
    obtain ⟨_, _, z, _⟩ := x1.done
    rw [z]
    exact ⟨rfl, rfl⟩
  have made : ∀ (og : Obj) (v1 v2 : Value) (tt : Nat), og.cls = .type "generator" → og.data = .fields #[.int s1.gens.size 0, v1, v2] → og.slots = #[] → (∀ hp : Heap, (hp.push og).get? hp.objs.size = some og) →
      Mkd P w (k + 1) outer H s n R Ed (.ref s1.heap.objs.size) { s1 with gens := s1.gens.push (.fresh (.func (defBody st) (envOfC qual (defScope st) s.heap.objs.size f cdv))), toks := tt, heap := s1.heap.push og } := by
    intro og v1 v2 tt c1 c2 c3 c4
    have is : ∀ {hp : Heap}, hp.get? s1.heap.objs.size = some og → hp.IsGen s1.heap.objs.size s1.gens.size := fun {hp} e => ⟨og, v1, v2, e, c1, c2, c3⟩
    refine ⟨_, _, _, rfl, Nat.le_of_lt above, ?_, is (c4 _), Array.getElem?_push_size .., os1, AllBare.push (by rw [gens1]; exact e0.bare) rfl, (nol.keeps grow).keeps fun b o e => Heap.get?_push_of_some _ e, fun b o e => Heap.get?_push_of_some _ (grow b o e), ?_⟩
    · show _ < (s1.heap.push og).objs.size
      rw [Heap.size_push]
      exact Nat.lt_succ_self _
    intro B Cs s2 roomB framesB youngC keep2 objC os2 bare2
    have e0B : Env0 P w K mg base B outer s H := { frames := framesB, mod := e0.mod, bs := e0.bs, bsz := e0.bsz, funs := e0.funs, frf := e0.frf, hok := e0.hok, bare := e0.bare }
    have Ia := inv_startG (E := E0) S roomB.hd e0B nvs r x1
    have at2 : s2.heap.get? s1.heap.objs.size = some og := keep2 _ _ (c4 _)
    have Ib := Ia.call' (s' := s2) (ch := []) (os2.trans os1.symm) (Un.kept fun b o e => keep2 b o (Heap.get?_push_of_some _ e)) (Ia.hok.kept fun b o e => keep2 b o (Heap.get?_push_of_some _ e)) bare2 (fun b z => nomatch z)
    have fresh1 : ∀ b, s1.heap.objs.size ≤ b → H b = none ∧ b ≠ s.heap.objs.size ∧ b ∉ frs outer ∧ s.heap.objs.size ≤ b ∧ ∀ y c, (cellsFrom (s.heap.objs.size + 1) (defScope st).names []).lookup y = some c → c ≠ b := fun b hb =>
      ⟨Ia.hok.fresh hb, Nat.ne_of_gt (Nat.lt_of_lt_of_le above hb), Ia.nofs hb, Nat.le_trans (Nat.le_of_lt above) hb, fun y c e z => by
        obtain ⟨vv, ob, ho, _⟩ := Ia.cell y c e
        exact absurd (Nat.lt_of_lt_of_le (Heap.lt_size ho) (z ▸ hb)) (Nat.lt_irrefl _)⟩
    have up : ∀ b ∈ Cs, s1.heap.objs.size + 1 ≤ b := fun b hb => by
      have q : (s1.heap.push og).objs.size ≤ b := youngC b hb
      rw [Heap.size_push] at q
      exact q
    have I : Inv (gx P w K mg base N qual (defScope st) f cdv B outer s H [(s1.heap.objs.size, og)]) ([] ++ pinsAt Cs s2.heap) (start N vs) H s2 := gx_inv Ib fun p hp => by
      rcases List.mem_append.mp hp with q | q
      · rw [List.mem_singleton.mp q]
        obtain ⟨y1, y2, y3, _⟩ := fresh1 _ (Nat.le_refl s1.heap.objs.size)
        exact ⟨at2, y1, y2, y3, fun v z => by rw [c2] at z; cases z⟩
      · obtain ⟨hb, e⟩ := of_pinsAt (show p ∈ pinsAt Cs s2.heap from q)
        obtain ⟨y1, y2, y3, _⟩ := fresh1 p.1 (Nat.le_of_succ_le (up _ hb))
        obtain ⟨o, eo, no⟩ := objC _ hb
        rw [e] at eo
        cases eo
        exact ⟨e, y1, y2, y3, no⟩
    have L : Aloof (gx P w K mg base N qual (defScope st) f cdv B outer s H [(s1.heap.objs.size, og)]) Cs := by
      refine ⟨fun b hb => (fresh1 b (Nat.le_of_succ_le (up _ hb))).2.2.2.1, fun b hb => (fresh1 b (Nat.le_of_succ_le (up _ hb))).2.1, fun b hb => (fresh1 b (Nat.le_of_succ_le (up _ hb))).2.2.2.2, fun p hp hb => ?_⟩
      have e : p = (s1.heap.objs.size, og) := List.mem_singleton.mp hp
      have q := up _ hb
      rw [e] at q
      exact absurd q (Nat.not_succ_le_self _)
    obtain ⟨tg, iter, e, yp, ypos, pos, wi, g, te, eb, hi, hg, he, hf, hw⟩ := body cdv B outer s H vs n R Ed [(s1.heap.objs.size, og)] (roomB.deeper _) hsp
    have told : ∀ {s₀ : Shared} {σ' : L2.St} {H' : Hp} {ip : List (Addr × Obj)} {s' : Shared}, (∀ b ∈ Cs, ∃ o, s₀.heap.get? b = some o) → Inv (gx P w K mg base N qual (defScope st) f cdv B outer s H [(s1.heap.objs.size, og)]) (ip ++ pinsAt Cs s₀.heap) σ' H' s' → ∀ b ∈ Cs, H' b = none ∧ s'.heap.get? b = s₀.heap.get? b := fun hex J b hb => by
      obtain ⟨o, eo⟩ := hex b hb
      have z := J.pin (b, o) (List.mem_append_right _ (List.mem_append_right _ (mem_pinsAt hb eo)))
      exact ⟨z.2.1, z.1.trans eo.symm⟩
    refine seg_imp (R := GD (gx P w K mg base N qual (defScope st) f cdv B outer s H [(s1.heap.objs.size, og)]) Cs n n Ed) (Y := YG (gx P w K mg base N qual (defScope st) f cdv B outer s H [(s1.heap.objs.size, og)]) Cs n n R) (fun m s₀ rr sx ⟨er, σ', H', ip, hm, hex, J, ed⟩ => ?_) (fun m s₀ v sx kap kap' up' ⟨i, y, σ', H', ip, hm, lt, rv, hip, hex, J, ri, kp⟩ => ?_) n ?_
    · rw [eb]
      refine seg_func (seg_execs_cons (seg_forStmt hf ?_))
      rw [over_func]
      refine wpAny_mono (hi.run _ s2 (start N vs) H _ I hw) (fun xv s3 h3 => wpAny_mono h3 (fun itv s4 h4 => ?_) fun _ _ q => q) fun _ _ q => q
      obtain ⟨it, fp, tn, J, H4, ei, I4, T, st4, f4, Ws, w0, step⟩ := h4
      subst ei
      intro p0 Fx
      refine gen_loop (ip := []) rfl (fun _ _ q => q) rfl T hg he L (fun p hp => nomatch hp) rfl S.co (by show ((defScope st).kind == .module && _) = false; rw [S.kind]; rfl) (fun b hb => ?_) (Nat.le_refl _) step n 0 n s2 s4 _ H4 (Nat.add_zero _) (Nat.add_zero _) w0 I4 st4 (fun b hb => (f4 b hb).1) (fun b hb => ?_)
      · obtain ⟨f0, f1, f2, f3, f5, f6⟩ := f4 b hb
        refine ⟨f1, f2, f3, f5, fun p hp => f6 p ?_, fun hm => ?_⟩
        · rcases List.mem_append.mp hp with q | q
          · exact List.mem_append_left _ q
          · exact nomatch q
        · obtain ⟨o, eo, _⟩ := objC b hm
          exact f6 (b, o) (List.mem_append_right _ (List.mem_append_right _ (mem_pinsAt hm eo))) rfl
      · obtain ⟨o, eo, _⟩ := objC b hb
        exact ⟨o, eo⟩
    · exact .inl ⟨.inl er, hm, H', J.os, J.bare, J.base, J.hok, told hex J, ed⟩
    · have z := J.pin (s1.heap.objs.size, og) (List.mem_append_left _ (List.mem_singleton.mpr rfl))
      exact ⟨i, y, H', hm, lt, rv, ri, J.os, J.bare, J.nolimit, is z.1, J.base, J.hok, told hex J, fun s' rs => up' _ _ (kp s' rs)⟩
  exact made _ _ _ _ rfl rfl rfl fun hp => Heap.get?_push_size _ rfl
end G

set_option Elab.async false
set_option linter.all false
set_option maxRecDepth 100000
set_option maxHeartbeats 4000000
/-! Quiet expressions: they change nothing that stood before, no generator turns. -/
namespace G
open PySem PySem.Spec PyProof.Rows L2 GenW
structure Qui (Cs : List Addr) (s s' : Shared) : Prop where
  os : s'.os = s.os
  gens : s'.gens = s.gens
  keep : ∀ b o, b ∉ Cs → s.heap.get? b = some o → s'.heap.get? b = some o
  there : ∀ b o, s.heap.get? b = some o → ∃ o', s'.heap.get? b = some o'
theorem Qui.refl {Cs : List Addr} (s : Shared) : Qui Cs s s := ⟨rfl, rfl, fun _ _ _ e => e, fun _ o e => ⟨o, e⟩⟩
theorem Qui.trans {Cs : List Addr} {s s' s'' : Shared} (a : Qui Cs s s') (b : Qui Cs s' s'') : Qui Cs s s'' :=
  ⟨b.os.trans a.os, b.gens.trans a.gens, fun c o h e => b.keep c o h (a.keep c o h e), fun c o e => let ⟨o', e'⟩ := a.there c o e; b.there c o' e'⟩
theorem Qui.mono {Cs Ds : List Addr} {s s' : Shared} (a : Qui Cs s s') (h : ∀ b ∈ Cs, b ∈ Ds) : Qui Ds s s' := ⟨a.os, a.gens, fun c o n e => a.keep c o (fun z => n (h c z)) e, a.there⟩
structure QE (X : Cx) (e : Expr) (t : TE) : Prop where
  run : ∀ (pins : List (Addr × Obj)) (s : Shared) (σ : L2.St) (H : Hp) (Q : VK), Inv X pins σ H s → t σ H Q → wpAny (model X.prog X.w) X.A (eval e X.env) (fun u s' => EP X pins σ Q u s' ∧ Qui [] s s') (fun _ _ => False) s
structure QT (X : Cx) (e : Expr) (t : TT) : Prop where
  run : ∀ (pins : List (Addr × Obj)) (s : Shared) (σ : L2.St) (H : Hp) (Q : Bool → Hp → Prop), Inv X pins σ H s → t σ H Q → wpAny (model X.prog X.w) X.A (isTrue e X.env (eval e X.env)) (fun b s' => TP X pins σ Q b s' ∧ Qui [] s s') (fun _ _ => False) s
structure QG (X : Cx) (tg : Expr) (t : TG) : Prop where
  run : ∀ (pins : List (Addr × Obj)) (s : Shared) (σ : L2.St) (H : Hp) (v : V) (u : Value) (Q : L2.St → Hp → Prop), Inv X pins σ H s → RelV v u → t v σ H Q →
    wpAny (model X.prog X.w) X.A (assign tg X.env u) (fun _ s' => (∃ σ' H', Inv X pins σ' H' s' ∧ Q σ' H') ∧ Qui [X.env.locals] s s') (fun _ _ => False) s
structure QGs (X : Cx) (ts : List Expr) (t : TGs) : Prop where
  run : ∀ (pins : List (Addr × Obj)) (s : Shared) (σ : L2.St) (H : Hp) (vs : List V) (us : List Value) (Q : L2.St → Hp → Prop), Inv X pins σ H s → Vals vs us → t vs σ H Q →
    wpAny (model X.prog X.w) X.A (assignInOrder ((assignEach ts X.env).map (·.2)) us) (fun _ s' => (∃ σ' H', Inv X pins σ' H' s' ∧ Q σ' H') ∧ Qui [X.env.locals] s s') (fun _ _ => False) s
section
variable {X : Cx} {a b e : Expr} {ta tb : TE} {pos : Pos}
theorem qe_var (i : Nat) {x : Str} (hN : X.N[i]? = some x) (hv : Vis X.env.scope x) (hd : (x == ("__debug__" : Str)) = false := by decide) (hcd : (x == ("__classdict__" : Str)) = false := by decide) : QE X (.Name x pos) (tVar i) := by
  refine ⟨fun pins s σ H Q I h => ?_⟩
  obtain ⟨v, ev, q⟩ := h
  obtain ⟨m, ns, look⟩ := I.loc
  obtain ⟨u, rv, hl⟩ := look i x v hN ev hv
  have done : EP X pins σ Q u s ∧ Qui [] s s := ⟨⟨v, H, I, rv, q⟩, Qui.refl s⟩
  refine wpAny_Name ?_ hd
  rcases hl with ⟨kd, em⟩ | ⟨kd | kd, c, ec, ic⟩
  · exact wpAny_loadName_local I.ok.kind kd ns em done
  · exact wpAny_loadName_cell I.ok.kind kd ec ic done
  · exact wpAny_loadName_free I.ok.kind kd ec ic done hcd
theorem qe_int {i : Int} {j : Nat} : QE X (.Constant (.int i) j pos) (tC (.int i)) := ⟨fun _ s _ H _ I h => wpAny_Constant_int ⟨⟨.int i, H, I.tok _, ⟨_, rfl⟩, h⟩, rfl, rfl, fun _ _ _ z => z, fun _ o z => ⟨o, z⟩⟩⟩
theorem qe_str {x : Str} {j : Nat} : QE X (.Constant (.str x) j pos) (tC (.str x)) := ⟨fun _ s _ H _ I h => Calls.Constant_str ⟨⟨.str x, H, I.tok _, ⟨_, rfl⟩, h⟩, rfl, rfl, fun _ _ _ z => z, fun _ o z => ⟨o, z⟩⟩⟩
theorem qe_ix (ha : QE X a ta) (hb : QE X b tb) (hp : PlainIx b) : QE X (.Subscript a b pos) (tOp (rIxT X.K) ta tb) := by
  refine ⟨fun pins s σ H Q I h => Subscript_ (wpAny_mono (ha.run pins s σ H _ I h) (fun v s1 ⟨⟨x, H1, I1, r1, q1⟩, k1⟩ => wpAny_mono (hb.run pins s1 σ H1 _ I1 q1) (fun u s2 ⟨⟨y, H2, I2, r2, q2⟩, k2⟩ => ?_) fun _ _ z => z) fun _ _ z => z)⟩
  obtain ⟨p, xs, i, z, rfl, rfl, hq, hat, q⟩ := q2
  obtain rfl : v = Value.ref p := r1
  obtain ⟨t, rfl⟩ := r2
  obtain ⟨its, rr, pl, hz⟩ := I2.tuple hq
  obtain ⟨j, h1, h2, h3, h4, h5⟩ := atI_get hat
  obtain ⟨vw, ew, rw'⟩ := rr.get h2
  have hl := rr.length
  have hn := line63
  exact subscriptTail_builtinR (x := vw) pl.typeIs slot_tuple_getitem.lookup
    (getItem_tuple (j := j) (Q := fun r s' => r = vw ∧ EP X pins σ Q r s' ∧ Qui [] s s') pl (by omega) (by omega) (by rw [List.size_toArray, ← hl]; exact h1) (by simpa using ew) ⟨rfl, ⟨z, H2, I2, rw', q⟩, k1.trans k2⟩) (hp _ _)
def tEqS (ta tb : TE) : TT := fun σ H Q => ta σ H fun x H1 => tb σ H1 fun y H2 => ∃ i j : Str, x = .str i ∧ y = .str j ∧ Q (decide (V.str i = V.str j)) H2
theorem qt_eq (ha : QE X a ta) (hb : QE X b tb) (hm : behindInMarks .Eq b = false) : QT X (.Compare a [.Eq] [b] pos) (tEqS ta tb) := by
  refine ⟨fun pins s σ H Q I h => wpAny_isTrue_Compare1 (wpAny_mono (ha.run pins s σ H _ I h) (fun v s1 ⟨⟨x, H1, I1, r1, q1⟩, k1⟩ => wpAny_mono (hb.run pins s1 σ H1 _ I1 q1) (fun u s2 ⟨⟨y, H2, I2, r2, q2⟩, k2⟩ => ?_) fun _ _ z => z) fun _ _ z => z) hm⟩
  obtain ⟨i, j, rfl, rfl, q⟩ := q2
  obtain ⟨t, rfl⟩ := r1
  obtain ⟨t', rfl⟩ := r2
  refine eq_str (wpAny_truthy_bool ⟨⟨H2, I2, ?_⟩, k1.trans k2⟩)
  rw [show (i == j) = decide (V.str i = V.str j) from dec_str.symm]
  exact q
theorem qg_name {i : Nat} {x : Str} (hN : X.N.Nodup) (hi : X.N[i]? = some x) (hx : X.env.scope.names.lookup x = some .local) : QG X (.Name x pos) (gName i) := by
  refine ⟨fun pins s σ H v u Q I r h => wpAny_assign_Name ?_⟩
  obtain ⟨m, hn, hl⟩ := id I.loc
  have lσ : i < σ.length := by
    rw [I.len]
    exact (List.getElem?_eq_some_iff.mp hi).1
  have notC : (X.env.scope.kind == .class || (X.env.scope.kind == .module && X.env.locals != X.env.globals)) = false := by
    rw [I.ok.kind]
    rfl
  have young : ∀ {b : Addr} {o : Obj}, X.s_0.heap.get? b = some o → b ≠ X.env.locals := fun e => Nat.ne_of_lt (Nat.lt_of_lt_of_le (Heap.lt_size e) I.ok.above)
  refine wpAny_storeName_local hx hn (fun h' hn' same => ?_) notC
  have st : ∀ {b : Addr} {o : Obj}, b ≠ X.env.locals → s.heap.get? b = some o → h'.get? b = some o := fun ne e => (same.2 _ ne).trans e
  obtain ⟨oL, esL, epL, getL, dL, _⟩ := id hn
  obtain ⟨oM, esM, epM, getM, dM, _⟩ := id hn'
  refine ⟨⟨_, H, ?_, h⟩, rfl, rfl, fun b o nb e => st (fun z => nb (by rw [z]; exact List.mem_singleton.mpr rfl)) e, fun b o e => ?_⟩
  · exact {
      ok := I.ok
      os := I.os
      bare := I.bare
      base := ⟨fun b o e n hb hx => st (young e) (I.base.keep b o e n hb hx), fun b o e n hb hx => (I.base.slot b o e n hb hx).imp fun _ z => st (young e) z, I.base.free, fun b o e hx => (I.base.there b o e hx).imp fun _ z => st (young e) z, I.base.tups, I.base.frzs, I.base.tbls⟩
      loc := ⟨_, hn', fun j y v' e1 e2 e3 => by
        by_cases hj : j = i
        · obtain rfl := hj
          obtain rfl : x = y := Option.some.inj (hi.symm.trans e1)
          rw [List.getElem?_set_self lσ] at e2
          obtain rfl : v = v' := by simpa using e2
          exact ⟨u, r, Or.inl ⟨hx, if_pos rfl⟩⟩
        · rw [List.getElem?_set_ne fun z => hj z.symm] at e2
          obtain ⟨u', r', lk⟩ := hl j y v' e1 e2 e3
          refine ⟨u', r', lk.imp (fun ⟨k1, k2⟩ => ⟨k1, ?_⟩) fun ⟨k1, c, k2, k3⟩ => ⟨k1, c, k2, k3.sameBut same (I.cne y c k2)⟩⟩
          exact (if_neg fun z : y = x => hj (nodup_ix hN e1 (z ▸ hi))).trans k2⟩
      cell := fun y c e => (I.cell y c e).imp fun _ z => z.sameBut same (I.cne y c e)
      free := I.free
      freeC := I.freeC
      pin := fun p hp => let ⟨z1, z2, z3, z4⟩ := I.pin p hp; ⟨st z3 z1, z2, z3, z4⟩
      hok := fun b o e => (I.hok b o e).stay (fun c w' hc q => st (fun z => by
        rcases hc with y | y
        · rw [← y, z, I.free] at e
          cases e
        · rw [z, I.free] at y
          cases y) q) (fun _ z => z) fun _ _ z => z
      len := by simpa using I.len }
  · by_cases z : b = X.env.locals
    · exact ⟨oM, z ▸ getM⟩
    · exact ⟨o, st z e⟩
theorem qgs_nil : QGs X [] gNil := ⟨fun pins s σ H vs us Q I r ⟨ev, h⟩ => by
  subst ev
  cases r
  exact assignInOrder_nil ⟨⟨σ, H, I, h⟩, Qui.refl s⟩⟩
theorem qgs_cons {es : List Expr} {t : TG} {u : TGs} (h1 : QG X e t) (h2 : QGs X es u) (hs : (assignEach (e :: es) X.env).map (·.2) = assign e X.env :: (assignEach es X.env).map (·.2) := by rfl) : QGs X (e :: es) (gCons t u) := by
  refine ⟨fun pins s σ H vs us Q I rr ⟨v, vr, ev, h⟩ => ?_⟩
  subst ev
  match us, rr with
  | _ :: _, .cons r1 r2 =>
    rw [hs]
    exact assignInOrder_cons (wpAny_mono (h1.run pins s σ H v _ _ I r1 h) (fun _ s1 ⟨⟨σ1, H1, I1, q1⟩, k1⟩ => wpAny_mono (h2.run pins s1 σ1 H1 vr _ Q I1 r2 q1) (fun _ s2 ⟨q2, k2⟩ => ⟨q2, k1.trans k2⟩) fun _ _ z => z) fun _ _ z => z)
theorem qg_tup {es : List Expr} {k : Nat} {t : TGs} {n : Nat} (hc : X.calm = true) (h : QGs X es t) (hn : (assignEach es X.env).length = n := by rfl) (hst : (assignEach es X.env).findIdx? (·.1) = none := by rfl) : QG X (.Tuple es k pos) (gTup X.K n t) := by
  refine ⟨fun pins s σ H v u Q I r ⟨p, xs, ev, hq, hl, hw⟩ => ?_⟩
  subst ev
  obtain rfl : u = Value.ref p := r
  obtain ⟨its, rv, ht, hz⟩ := I.tuple hq
  refine assign_Tuple_tuple (I.ok.hd hc) ht (by simp [hn, ← hl, rv.length]) hst fun h' ex => ?_
  have kp : ∀ b o, s.heap.get? b = some o → h'.get? b = some o := fun b o e => ex b o (Nat.ne_of_lt (Heap.lt_size e)) e
  exact wpAny_mono (h.run pins _ σ H xs _ Q (I.kept (t' := s.toks) kp) (by simpa using rv) hw) (fun _ s2 ⟨q2, k2⟩ => ⟨q2, ⟨k2.os, k2.gens, fun b o nb e => k2.keep b o nb (kp b o e), fun b o e => k2.there b o (kp b o e)⟩⟩) fun _ _ z => z
end
end G

set_option Elab.async false
set_option linter.all false
set_option maxRecDepth 100000
set_option maxHeartbeats 8000000
/-! A comprehension over a generator that was just made. -/
namespace G
open PySem PySem.Spec PyProof.Rows L2 GenW
/-- [elt for tg in f(..) if test], f a generator def: R i x: what the item at i is; Y i: what it adds (none: nothing) -/
def tLcG (sp : SpY) (ta : TA) (g : TG) (tt : TT) (te : TE) (own : List Nat) : TE := fun σ H Q => ta σ H fun vs H1 => ∃ (n : Nat) (R : Nat → V → Hp → Prop) (Ed : Hp → Prop) (Y : Nat → Option V → Prop), sp vs H1 n R Ed ∧ n < sizeLine ∧
  (∀ i x H2 H3, Same H2 H3 → R i x H2 → R i x H3) ∧
  (∀ i x H', i < n → R i x H' → g x (wipe σ own) H' fun σ2 H2 => H2 = H' ∧ wipe σ2 own = wipe σ own ∧ tt σ2 H' fun b H3 => H3 = H' ∧ if b = true then te σ2 H' fun y H4 => H4 = H' ∧ Y i (some y) else Y i none) ∧
  ∀ (H' : Hp) (D : Addr) (os : List (Option V)), H' D = none → Ed H' → os.length = n → (∀ i o, os[i]? = some o → Y i o) → Q (.ref D) (upd H' D (.lst (os.filterMap id)))
/-- the block's context, as of before the generator was made -/
theorem blk_back {X : Cx} {pins : List (Addr × Obj)} {σ τ : L2.St} {H1 H3 H4 : Hp} {s1 s3 s4 : Shared} {scope : Scope} {ce : Env} (I1 : Inv X pins σ H1 s1) (I4 : Inv (X.blk s3 H3 scope ce []) [] τ H4 s4) (sz : s1.heap.objs.size ≤ s3.heap.objs.size) (os : s4.os = s1.os)
    (un : Un (frs X.stack) [] H1 H4 s1.heap s4.heap) : Inv (X.blk s1 H1 scope ce []) [] τ H4 s4 where
  ok := { mod := I4.ok.mod, kind := I4.ok.kind, glob := I4.ok.glob, blt := I4.ok.blt, above := Nat.le_trans sz I4.ok.above, inj := I4.ok.inj, has := I4.ok.has,
          cab := fun x c h e => Nat.le_trans sz (I4.ok.cab x c h e), hd := I4.ok.hd, frames := I4.ok.frames, stk := I4.ok.stk, exf := fun b hb => absurd hb List.not_mem_nil, bs := I1.bs, bsz := Nat.le_trans I1.ok.bsz I1.sz, noex := fun b o e hb => absurd hb List.not_mem_nil, exfs := fun b hb => absurd hb List.not_mem_nil,
          funs := I1.stack
          frf := I1.stkFree }
  os := os
  bare := I4.bare
  base := un
  loc := I4.loc
  cell := I4.cell
  free := I4.free
  freeC := I4.freeC
  pin := I4.pin
  hok := I4.hok
  len := I4.len
/-- the generator has turned: the block's context goes on -/
theorem blk_next {X : Cx} {pins : List (Addr × Obj)} {σ τ : L2.St} {H1 Ha H' : Hp} {s1 s t : Shared} {scope : Scope} {ce : Env} {D : Addr} {acc : List V} (I1 : Inv X pins σ H1 s1) (I : Inv (X.blk s1 H1 scope ce []) [] τ (upd Ha D (.lst acc)) s) (hD : s1.heap.objs.size ≤ D)
    (hcl : ∀ x c, ce.cells.lookup x = some c → ∃ o, s1.heap.get? c = some o ∧ H1 c = none) (os : t.os = s1.os) (bare : AllBare t.gens) (un : Un (frs X.stack) [] H1 H' s1.heap t.heap) (hok : HOk X.prog X.w H' t.heap)
    (kC : t.heap.get? ce.locals = s.heap.get? ce.locals) (kD : t.heap.get? D = s.heap.get? D) (nC : H' ce.locals = none) (nD : H' D = none) : Inv (X.blk s1 H1 scope ce []) [] τ (upd H' D (.lst acc)) t := by
  have older : ∀ {b : Addr} {o : Obj}, s1.heap.get? b = some o → b ≠ D := fun e => Nat.ne_of_lt (Nat.lt_of_lt_of_le (Heap.lt_size e) hD)
  have DC : ce.locals ≠ D := fun z => by
    have q : upd Ha D (.lst acc) ce.locals = none := I.free
    rw [z, upd_same] at q
    cases q
  have cel : ∀ {x : Str} {c : Addr} {v : Option Value}, ce.cells.lookup x = some c → s.heap.IsCell c v → t.heap.IsCell c v := fun {x c v} e ⟨o, eo, d⟩ => by
    obtain ⟨o1, e1, n1⟩ := hcl x c e
    obtain ⟨sa, ea⟩ := I.base.any e1 n1 List.not_mem_nil
    obtain ⟨sb, eb⟩ := un.any e1 n1 List.not_mem_nil
    have ea : s.heap.get? c = some { o1 with slots := sa } := ea
    rw [ea] at eo
    cases eo
    exact ⟨_, eb, d⟩
  have off : ∀ {b : Addr} {u : HO}, H' b = some u → b ≠ D := fun e z => by rw [z, nD] at e; cases e
  exact {
    ok := I.ok
    os := os
    bare := bare
    base := ⟨un.keep, un.slot, fun b o e n hx => by rw [upd_ne (older e)]; exact un.free b o e n hx, un.there,
      fun b xs e => by rw [upd_ne (off (un.tups b xs e))]; exact un.tups b xs e,
      fun b o u e => by rw [upd_ne (off (un.frzs b o u e))]; exact un.frzs b o u e,
      fun b ps e => by
        obtain ⟨more, q⟩ := un.tbls b ps e
        exact ⟨more, by rw [upd_ne (off q)]; exact q⟩⟩
    loc := by
      obtain ⟨m, ns, look⟩ := I.loc
      obtain ⟨o, es, ep, eo, r⟩ := ns
      refine ⟨m, ⟨o, es, ep, (show t.heap.get? ce.locals = some o from kC.trans eo), r⟩, fun i x v e1 e2 e3 => ?_⟩
      obtain ⟨u, rv, lk⟩ := look i x v e1 e2 e3
      exact ⟨u, rv, lk.imp id fun ⟨k1, c, k2, k3⟩ => ⟨k1, c, k2, cel k2 k3⟩⟩
    cell := fun x c e => (I.cell x c e).imp fun _ z => cel e z
    free := by
      show upd H' D (.lst acc) ce.locals = none
      rw [upd_ne DC]
      exact nC
    freeC := fun x c e => by
      obtain ⟨o, eo, n⟩ := hcl x c e
      rw [upd_ne (older eo)]
      exact un.free c o eo n List.not_mem_nil
    pin := fun p hp => absurd (show p ∈ ([] : List (Addr × Obj)) ++ [] from hp) (by simp)
    hok := fun b u e => by
      by_cases hb : b = D
      · obtain rfl := hb
        rw [upd_same] at e
        cases e
        obtain ⟨z, its, c, r, q⟩ := (show ObjOk X.prog X.w (upd Ha b (.lst acc)) s.heap b (.lst acc) from I.hok b _ upd_same)
        exact ⟨z, its, c, r, kD.trans q⟩
      · rw [upd_ne hb] at e
        exact (hok b u e).stay (fun _ _ _ z => z) (fun d z => by rw [upd_ne (off z)]; exact z) fun d xs z => by rw [upd_ne (off z)]; exact z
    len := I.len }
end G

set_option Elab.async false
set_option linter.all false
set_option maxRecDepth 100000
set_option maxHeartbeats 8000000
/-! The comprehension's rule. -/
namespace G
open PySem PySem.Spec PyProof.Rows L2 GenW
theorem nocell {n : Nat} : ∀ {names : List (Str × NameKind)} {acc : List (Str × Addr)}, (∀ y ∈ names, y.2 ≠ .cell) → cellsFrom n names acc = acc
  | [], _, _ => rfl
  | (y, kd) :: r, acc, h => by
    unfold cellsFrom
    rw [if_neg (fun z => h (y, kd) (List.mem_cons_self ..) (by simpa using z))]
    exact nocell fun q hq => h q (List.mem_cons_of_mem _ hq)
/-- D is appended to -/
theorem add_ok {X : Cx} {pins : List (Addr × Obj)} {σ : L2.St} {H : Hp} {s : Shared} {E : Value → Shared → Prop} {D : Addr} {xs : List V} {y : V} {v : Value} {Q : Value → Shared → Prop} (I : Inv X pins σ H s) (hD : H D = some (.lst xs)) (hz : xs.length < sizeLine) (r : RelV y v)
    (h : ∀ s', Inv X pins σ (upd H D (.lst (xs ++ [y]))) s' → Qui [D] s s' → Q .none s') : wpAny (model X.prog X.w) X.A (call (.builtin "list.append") [.ref D, v]) Q E s := by
  obtain ⟨_, its, c, ri, e⟩ := (show ObjOk X.prog X.w H s.heap D (.lst xs) from I.hok D _ hD)
  have hl := ri.length
  refine append_at (hsz := by rw [List.size_toArray]; omega) e fun h' sb at' => ?_
  have st : ∀ b u, b ≠ D → s.heap.get? b = some u → h'.get? b = some u := fun b u hb q => (sb.2 b hb).trans q
  have J : Inv X pins σ (upd H D (.lst (xs ++ [y]))) { s with heap := h', toks := s.toks } := I.write (t' := s.toks) (by rw [hD]; trivial) (.inl rfl) st ⟨_, at'⟩ ⟨by rw [List.length_append]; exact hz, its ++ [v], c + 1, ri.append (.cons r .nil), by rw [at']; simp⟩
  refine h _ J ⟨rfl, rfl, fun b u hb q => st b u (fun z => hb (by rw [z]; exact List.mem_singleton.mpr rfl)) q, fun b u q => ?_⟩
  by_cases z : b = D
  · exact ⟨_, z ▸ at'⟩
  · exact ⟨u, st b u z q⟩
section
variable {X : Cx} {k : Nat} {f : Addr} {fd : FuncData} {ps : List Str} {sp : SpY} {x : Str} {p cpos pos : Pos} {e : Expr} {es : List Expr} {ta : TA} {elt tg tst : Expr} {scope : Scope} {own : List (Str × Nat)} {g : TG} {tt : TT} {te : TE}
theorem lcG_core {pins : List (Addr × Obj)} {s : Shared} {σ : L2.St} {H : Hp} {Q : VK} {use : Option (Value → Sem Unit)} {Qf : Value → Shared → Prop} {pos' : Pos} (I : Inv X pins σ H s) (h : tLcG sp ta g tt te (own.map (·.2)) σ H Q) (F : GnOk X.prog X.w X.K X.mg X.base k f fd ps sp) (hr : Room (k + 1) X.A) (hgl : Gl X x) (hm : X.mg x = some (.ref f)) (hk : PySem.W.keepIn X.K (.ref f) = true) (hb : Binds X.K fd ps []) (ha : PA X (e :: es) ta)
    (hc : X.calm = true) (hN : X.N.Nodup) (ok : BlkOk X.N X.env.scope scope own) (hcells : ∀ y ∈ scope.names, y.2 ≠ .cell)
    (hg : ∀ (s : Shared) (H : Hp) (C : Addr) (cl : List (Str × Addr)) (fp : List Addr), QG (X.blk s H scope (compEnvC scope cl C X.env) fp) tg g)
    (ht : ∀ (s : Shared) (H : Hp) (C : Addr) (cl : List (Str × Addr)) (fp : List Addr), QT (X.blk s H scope (compEnvC scope cl C X.env) fp) tst tt)
    (he : ∀ (s : Shared) (H : Hp) (C : Addr) (cl : List (Str × Addr)) (fp : List Addr), QE (X.blk s H scope (compEnvC scope cl C X.env) fp) elt te)
    (hdb : (x == ("__debug__" : Str)) = false := by decide) (hse : starEach (e :: es) X.env = (false, eval e X.env) :: starEach es X.env := by rfl) (hpl : (backTo cpos (starEach es X.env)).any (·.1) = false := by rfl)
    (hfs : ∀ z, foldedSetIterable (.Call (.Name x p) (e :: es) [] cpos) X.env z = pure z)
    (hRR : ∀ D C s' m H', Inv X pins σ H' s' → Q (.ref D) H' → s'.heap.Ns C m → FpOk X pins H' C → compPost (model X.prog X.w) X.A X.xe use Qf (.ref D) C (.ok .next) s') :
    wpAny (model X.prog X.w) X.A (comprehension (.ListComp elt [⟨tg, .Call (.Name x p) (e :: es) [] cpos, [tst], 0⟩] scope pos) scope X.env pos' (newList []) false (eval (.Call (.Name x p) (e :: es) [] cpos) X.env) use) Qf X.xe s := by
  have clo : ∀ {y : Str × NameKind}, y ∈ scope.names → y.2 = .free → ∃ c, X.env.cells.lookup y.1 = some c := fun {y} hy ey => (ok.free y hy ey).elim (fun z => I.ok.has _ (.inl z)) fun z => I.ok.has _ (.inr z)
  refine wpAny_comprehension_free (use := use) rfl hfs (closure_ok fun y hy ey => clo hy ey) ok.kind (fun y hy ey => (ok.uniq y hy).trans (congrArg some ey)) ?_
  refine wpAny_Call_Name_kw (ld_glob I hgl hm ?_ hdb)
  refine PySem.W.callWith_K (h₀ := X.base) I.ok.mod.kin hk (thn (ha.run cpos pins s σ H _ I h) fun us s1 ⟨vs, H1, I1, r, q⟩ => ⟨I1.kIn, ?_⟩) hse hpl
  obtain ⟨n, R, Ed, Y, hsp, hn, mono, turn, fin⟩ := q
  have hl : us.length = ps.length := r.length.symm.trans (F.len _ _ _ _ _ hsp)
  have bt := hb s1 us I1.kIn (by rw [List.append_nil]; exact hl)
  rw [List.append_nil] at bt
  refine wpAny_call (codeAny_mono (F.run X.A X.stack s1 H1 ⟨us, []⟩ us vs n R Ed (hr.mono (Nat.le_succ k)) I1.env0 bt r hsp) fun rr s2 hq => ?_)
  match rr, hq with
  | .error _, hq => exact hq.elim
  | .ok .next, hq => exact hq.elim
  | .ok .brk, hq => exact hq.elim
  | .ok .cont, hq => exact hq.elim
  | .ok (.ret u), hq =>
  obtain ⟨a, gn, c, rfl, a1, a2, isg, hgs, os2, bare2, nol2, keep2, wakes⟩ := hq
  refine wpAny_pyIter_gen isg ?_
  refine wpAny_newObj_type (newEnv_comp ?_) (by show 0 ≤ sizeLine; decide)
  generalize eD : s2.heap.objs.size = D
  generalize es3 : ({ s2 with heap := s2.heap.push { cls := .type "list", data := .seq ([] : List Value).toArray } } : Shared) = s3
  have I2 : Inv X pins σ H1 s2 := I1.call' (ch := []) os2 (Un.kept keep2) (I1.hok.kept keep2) bare2 fun b z => absurd z List.not_mem_nil
  have sD : s1.heap.objs.size ≤ D := by rw [← eD]; exact Nat.le_trans a1 (Nat.le_of_lt a2)
  have nD1 : H1 D = none := I2.hok.fresh (Nat.le_of_eq eD)
  have k23 : ∀ b o, s2.heap.get? b = some o → s3.heap.get? b = some o := fun b o z => by rw [← es3]; exact Heap.get?_push_of_some _ z
  have at3 : s3.heap.get? D = some { cls := .type "list", data := .seq ([] : List Value).toArray } := by
    rw [← es3, ← eD]
    exact Heap.get?_push_size _ rfl
  have sz3 : s3.heap.objs.size = D + 1 := by rw [← es3, ← eD]; exact Heap.size_push ..
  have os3 : s3.os = s2.os := by rw [← es3]
  have gens3 : s3.gens = s2.gens := by rw [← es3]
  have I3 : Inv X pins σ (upd H1 D (.lst [])) s3 := by
    rw [← es3] at at3 ⊢
    exact I2.laid (t' := s2.toks) (fun b o z => Heap.get?_push_of_some _ z) (Nat.le_of_eq eD) ⟨Nat.zero_le _, [], 0, .nil, at3⟩
  have I4 := block_start (fp := []) I3 ok hN fun b hb => absurd hb List.not_mem_nil
  have qg := hg s1 H1 s3.heap.objs.size (cellsFrom (s3.heap.objs.size + 1) scope.names (cloFrom X.env.cells scope.names [])) []
  have qt := ht s1 H1 s3.heap.objs.size (cellsFrom (s3.heap.objs.size + 1) scope.names (cloFrom X.env.cells scope.names [])) []
  have qe := he s1 H1 s3.heap.objs.size (cellsFrom (s3.heap.objs.size + 1) scope.names (cloFrom X.env.cells scope.names [])) []
  show codeAny _ _ (.compStart (.ListComp elt [⟨tg, .Call (.Name x p) (e :: es) [] cpos, [tst], 0⟩] scope pos) 0 (.ref a) (.ref D) (compEnvC scope (cellsFrom (s3.heap.objs.size + 1) scope.names (cloFrom X.env.cells scope.names [])) s3.heap.objs.size X.env)) (compPost (model X.prog X.w) X.A X.xe use Qf (.ref D) s3.heap.objs.size) { s3 with heap := pushCells (s3.heap.push { cls := .type "dict", data := .dict #[] }) scope.names }
  generalize hce : compEnvC scope (cellsFrom (s3.heap.objs.size + 1) scope.names (cloFrom X.env.cells scope.names [])) s3.heap.objs.size X.env = ce at I4 qg qt qe ⊢
  have cL : ce.locals = s3.heap.objs.size := by rw [← hce]; rfl
  have cC : ce.cells = cloFrom X.env.cells scope.names [] := by rw [← hce]; exact nocell hcells
  have hcl : ∀ y c, ce.cells.lookup y = some c → ∃ o, s1.heap.get? c = some o ∧ H1 c = none := fun y c ec => by
    rw [cC] at ec
    rcases cloFrom_mem (PySem.mem_of_lookup ec) with z | ⟨z, rfl⟩
    · exact absurd z List.not_mem_nil
    · obtain ⟨c', hc'⟩ := clo z rfl
      rw [hc']
      obtain ⟨v, o, eo, _⟩ := I1.cell _ _ hc'
      exact ⟨o, eo, I1.freeC _ _ hc'⟩
  generalize hs4 : ({ s3 with heap := pushCells (s3.heap.push { cls := .type "dict", data := .dict #[] }) scope.names } : Shared) = s4 at I4 ⊢
  have k34 : ∀ b o, s3.heap.get? b = some o → s4.heap.get? b = some o := fun b o z => by
    rw [← hs4]
    exact pushCells_keeps _ _ _ _ (Heap.get?_push_of_some _ z)
  have os4 : s4.os = s3.os := by rw [← hs4]
  have gens4 : s4.gens = s3.gens := by rw [← hs4]
  have k14 : ∀ b o, s1.heap.get? b = some o → s4.heap.get? b = some o := fun b o z => k34 b o (k23 b o (keep2 b o z))
  have Ib := blk_back I1 I4 (by rw [sz3]; exact Nat.le_succ_of_le sD) (os4.trans (os3.trans os2)) (Un.laid k14 sD nD1)
  have neDC : D ≠ ce.locals := by rw [cL, sz3]; exact Nat.ne_of_lt (Nat.lt_succ_self D)
  have own2 : ∀ {τ : L2.St} {H' : Hp} {acc : List V} {s' : Shared}, Inv (X.blk s1 H1 scope ce []) [] τ (upd H' D (.lst acc)) s' → ∀ b ∈ [D, ce.locals], ∃ o, s'.heap.get? b = some o ∧ ∀ v, o.data ≠ .cell v := fun {τ H' acc s'} J b hb => by
    rcases List.mem_cons.mp hb with rfl | hb
    · obtain ⟨_, its, cc, _, q⟩ := (show ObjOk X.prog X.w (upd H' b (.lst acc)) s'.heap b (.lst acc) from J.hok b _ upd_same)
      exact ⟨_, q, fun v z => by cases z⟩
    · rw [List.mem_singleton.mp hb]
      obtain ⟨m, ⟨o, es, ep, eo, ed, _⟩, _⟩ := J.loc
      exact ⟨o, eo, fun v z => by rw [ed] at z; cases z⟩
  have hgl4 : s4.gens[gn]? = some (.fresh c) := by rw [gens4, gens3]; exact hgs
  have isg4 : s4.heap.IsGen a gn := by
    obtain ⟨o, v1, v2, z, rest⟩ := isg
    exact ⟨o, v1, v2, k34 _ _ (k23 _ _ z), rest⟩
  have first := wakes X.A.in1 [D, ce.locals] (s4.setGen gn .running) hr.in1 I.ok.frames (fun b hb => by
      rcases List.mem_cons.mp hb with rfl | hb
      · exact Nat.le_of_eq eD
      · rw [List.mem_singleton.mp hb, cL, sz3, eD]
        exact Nat.le_succ D) (fun b o z => k34 b o (k23 b o z)) (fun b hb => own2 (s' := s4) Ib b hb) (os4.trans (os3.trans os2)) (allBare_setGen Ib.bare rfl)
  have loop : codeAny (model X.prog X.w) X.A (.compLoop (.ListComp elt [⟨tg, .Call (.Name x p) (e :: es) [] cpos, [tst], 0⟩] scope pos) 0 (.ref a) (.ref D) ce) (compPost (model X.prog X.w) X.A X.xe use Qf (.ref D) s3.heap.objs.size) s4 := by
    refine compLoop_any (fun m s' => ∃ (i : Nat) (os : List (Option V)) (H' : Hp), i + m = n ∧ os.length = i ∧ (∀ j o, os[j]? = some o → Y j o) ∧ Inv (X.blk s1 H1 scope ce []) [] (wipe σ (own.map (·.2))) (upd H' D (.lst (os.filterMap id))) s' ∧ s'.heap.IsGen a gn ∧
      ∃ gs : GenState, s'.gens[gn]? = some gs ∧ gs.Goes (model X.prog X.w) X.A.in1 (REn X.prog X.w X.stack H1 s1 [D, ce.locals] n Ed) (YItm X.prog X.w X.stack H1 s1 [D, ce.locals] a gn n R) m (.send .none) (s'.setGen gn .running)) ?_ n
      ⟨0, [], H1, Nat.zero_add n, rfl, fun j o z => by simp at z, Ib, isg4, _, hgl4, rfl, first⟩
    rintro m s5 ⟨i, os, H5, him, hlen, hY, I5, isg5, gs, hgs5, go⟩
    have hgz : gn < s5.gens.size := (Array.getElem?_eq_some_iff.mp hgs5).1
    refine wpAny_gsz (n := gn + 1) hgz (next_genG (n := m) (gs := gs) (F := YEnd X.prog X.w X.stack H1 s1 [D, ce.locals] n Ed) (Er := fun _ _ => False) (I.ok.hd hc) I5.nolimit hr.depth isg5 hgs5 go (fun v sy gs' hbare hy => ?_) (fun sy hend h' hkept => ?_) fun _ _ z => z.elim)
    · intro hgz2
      obtain ⟨j, y, H6, hj, jn, rv, rj, os6, bare6, nol6, isg6, un6, hok6, kept6, rest6⟩ := hy
      have k5 : ∀ b ∈ [D, ce.locals], sy.heap.get? b = s5.heap.get? b := fun b hb => (kept6 b hb).2
      have own6 : ∀ b ∈ [D, ce.locals], ∃ o, sy.heap.get? b = some o ∧ ∀ v, o.data ≠ .cell v := fun b hb => by
        rw [k5 b hb]
        exact own2 I5 b hb
      cases m with
      | zero => exact (rest6 sy ⟨rfl, bare6, fun _ _ _ z => z, own6⟩).elim
      | succ m =>
      obtain rfl : j = i := by omega
      have n6D : H6 D = none := (kept6 D (List.mem_cons_self ..)).1
      have I6 : Inv (X.blk s1 H1 scope ce []) [] (wipe σ (own.map (·.2))) (upd H6 D (.lst (os.filterMap id))) (sy.setGen gn gs') := blk_next I1 I5 sD hcl os6 (allBare_setGen bare6 hbare) un6 hok6
        (k5 _ (List.mem_cons_of_mem _ (List.mem_singleton.mpr rfl))) (k5 _ (List.mem_cons_self ..)) (kept6 _ (List.mem_cons_of_mem _ (List.mem_singleton.mpr rfl))).1 n6D
      obtain ⟨og, v1, v2, geto, c1, c2, c3⟩ := id isg6
      refine go_of (n := "generator") geto c1 c2 (by decide +kernel) ?_
      have tn := turn j y (upd H6 D (.lst (os.filterMap id))) jn (mono j y H6 _ (Same.up n6D) rj)
      refine wpAny_mono (qg.run [] _ _ _ y v _ I6 rv tn) (fun _ s7 ⟨⟨σ7, H7, I7, e7, w7, q7⟩, r7⟩ => ?_) fun _ _ z => z.elim
      subst e7
      have next : ∀ {s' : Shared} {out : List V} {o : Option V}, Inv (X.blk s1 H1 scope ce []) [] σ7 (upd H6 D (.lst out)) s' → Qui [D, ce.locals] (sy.setGen gn gs') s' → Y j o → out = (os ++ [o]).filterMap id →
          ∃ m', m' < m + 1 ∧ ∃ (i : Nat) (os : List (Option V)) (H' : Hp), i + m' = n ∧ os.length = i ∧ (∀ j o, os[j]? = some o → Y j o) ∧ Inv (X.blk s1 H1 scope ce []) [] (wipe σ (own.map (·.2))) (upd H' D (.lst (os.filterMap id))) s' ∧ s'.heap.IsGen a gn ∧
            ∃ gs : GenState, s'.gens[gn]? = some gs ∧ gs.Goes (model X.prog X.w) X.A.in1 (REn X.prog X.w X.stack H1 s1 [D, ce.locals] n Ed) (YItm X.prog X.w X.stack H1 s1 [D, ce.locals] a gn n R) m' (.send .none) (s'.setGen gn .running) := fun {s' out o} J qk yo eo => by
        subst eo
        have lw : (wipe σ (own.map (·.2))).length = σ7.length := by rw [← w7, wipe_length]
        have gz : gn < sy.gens.size := by
          have q : (sy.setGen gn gs').gens.size = sy.gens.size := setGen_size _ _ _
          omega
        have atg : s'.gens[gn]? = some gs' := by
          rw [qk.gens]
          exact setGen_at gz
        have na : a ∉ [D, ce.locals] := fun hb => by
          obtain ⟨o', _, _, eo', _⟩ := isg
          have la : a < D := by rw [← eD]; exact Heap.lt_size eo'
          rcases List.mem_cons.mp hb with z | z
          · exact absurd la (by rw [z]; exact Nat.lt_irrefl _)
          · rw [List.mem_singleton] at z
            rw [z, cL, sz3] at la
            exact absurd (Nat.lt_of_succ_lt la) (Nat.lt_irrefl _)
        refine ⟨m, Nat.lt_succ_self m, j + 1, os ++ [o], H6, by omega, by rw [List.length_append, hlen]; rfl, fun j' o' z => ?_, J.weak lw (fun j' v' z => ?_), ⟨og, v1, v2, qk.keep a og na geto, c1, c2, c3⟩, gs', atg, rest6 (s'.setGen gn .running) ⟨qk.os, allBare_setGen J.bare rfl, fun b o' hb z => qk.keep b o' hb z, fun b hb => own2 (s' := s') J b hb⟩⟩
        · rcases Nat.lt_trichotomy j' j with lt | rfl | gt
          · rw [List.getElem?_append_left (by omega)] at z
            exact hY j' o' z
          · rw [List.getElem?_append_right (by omega), hlen, Nat.sub_self] at z
            cases z
            exact yo
          · rw [List.getElem?_eq_none (by rw [List.length_append, hlen]; show j + 1 ≤ j'; omega)] at z
            cases z
        · rw [← w7] at z
          exact (wipe_some z).1
      refine wpAny_tests_one (wpAny_mono (qt.run [] s7 σ7 _ _ I7 q7) (fun b s8 ⟨⟨H8, I8, e8, q8⟩, r8⟩ => ?_) fun _ _ z => z.elim)
      subst e8
      have r78 : Qui [D, ce.locals] (sy.setGen gn gs') s8 := (r7.mono fun b hb => List.mem_cons_of_mem _ hb).trans (r8.mono fun b hb => absurd hb List.not_mem_nil)
      cases b with
      | false =>
        rw [if_neg Bool.false_ne_true] at q8 ⊢
        exact next I8 r78 q8 (by simp)
      | true =>
        rw [if_pos rfl] at q8 ⊢
        refine wpAny_mono (qe.run [] s8 σ7 _ _ I8 q8) (fun z s9 ⟨⟨y9, H9, I9, ry, e9, yy⟩, r9⟩ => ?_) fun _ _ z => z.elim
        subst e9
        refine add_ok (X := X.blk s1 H1 scope ce []) I9 upd_same ?_ ry fun s10 I10 r10 => ?_
        · exact Nat.lt_of_le_of_lt (List.length_filterMap_le _ _) (by omega)
        · rw [upd_upd] at I10
          exact next I10 (r78.trans ((r9.mono fun b hb => absurd hb List.not_mem_nil).trans (r10.mono fun b hb => by rw [List.mem_singleton.mp hb]; exact List.mem_cons_self ..))) yy (by simp)
    · intro _
      obtain ⟨hm0, H6, os6, bare6, un6, hok6, kept6, ed⟩ := hend
      have n6D : H6 D = none := (kept6 D (List.mem_cons_self ..)).1
      obtain ⟨_, its, cc, ri, q5⟩ := (show ObjOk X.prog X.w (upd H5 D (.lst (os.filterMap id))) s5.heap D (.lst (os.filterMap id)) from I5.hok D _ upd_same)
      have atD : h'.get? D = some { cls := .type "list", data := .seq its.toArray cc } := hkept _ _ ((kept6 D (List.mem_cons_self ..)).2.trans q5)
      have J := I1.drained (s' := { sy.setGen gn .finished with heap := h' }) (out := os.filterMap id) sD (Nat.le_of_lt (Nat.lt_of_le_of_lt (List.length_filterMap_le _ _) (by omega))) atD (by simpa using ri) ExOk.nil os6 (allBare_setGen bare6 rfl) (un6.trans (Un.kept hkept)) (hok6.kept hkept) n6D
      obtain ⟨mm, ⟨oc, esc, epc, geC, rC⟩, _⟩ := I5.loc
      have geC' : h'.get? s3.heap.objs.size = some oc := hkept _ _ (by
        rw [← cL]
        exact (kept6 _ (List.mem_cons_of_mem _ (List.mem_singleton.mpr rfl))).2.trans geC)
      have nC : (upd H6 D (.lst (os.filterMap id))) s3.heap.objs.size = none := by
        rw [← cL, upd_ne neDC.symm]
        exact (kept6 _ (List.mem_cons_of_mem _ (List.mem_singleton.mpr rfl))).1
      exact hRR D _ _ mm _ J (fin H6 D os n6D ed (by omega) hY) ⟨oc, esc, epc, geC', rC⟩ (I3.fpOk (Nat.le_refl _) nC)
  exact codeAny_compStart_list loop (wpAny_pyIter_gen isg4 loop)
theorem pe_lcG (F : GnOk X.prog X.w X.K X.mg X.base k f fd ps sp) (hr : Room (k + 1) X.A) (hgl : Gl X x) (hm : X.mg x = some (.ref f)) (hk : PySem.W.keepIn X.K (.ref f) = true) (hb : Binds X.K fd ps []) (ha : PA X (e :: es) ta)
    (hc : X.calm = true) (hN : X.N.Nodup) (ok : BlkOk X.N X.env.scope scope own) (hcells : ∀ y ∈ scope.names, y.2 ≠ .cell)
    (hg : ∀ (s : Shared) (H : Hp) (C : Addr) (cl : List (Str × Addr)) (fp : List Addr), QG (X.blk s H scope (compEnvC scope cl C X.env) fp) tg g)
    (ht : ∀ (s : Shared) (H : Hp) (C : Addr) (cl : List (Str × Addr)) (fp : List Addr), QT (X.blk s H scope (compEnvC scope cl C X.env) fp) tst tt)
    (he : ∀ (s : Shared) (H : Hp) (C : Addr) (cl : List (Str × Addr)) (fp : List Addr), QE (X.blk s H scope (compEnvC scope cl C X.env) fp) elt te)
    (hdb : (x == ("__debug__" : Str)) = false := by decide) (hse : starEach (e :: es) X.env = (false, eval e X.env) :: starEach es X.env := by rfl) (hpl : (backTo cpos (starEach es X.env)).any (·.1) = false := by rfl)
    (hfs : ∀ z, foldedSetIterable (.Call (.Name x p) (e :: es) [] cpos) X.env z = pure z := by intro _; rfl) :
    PE X (.ListComp elt [⟨tg, .Call (.Name x p) (e :: es) [] cpos, [tst], 0⟩] scope pos) (tLcG sp ta g tt te (own.map (·.2))) := by
  refine ⟨fun pins s σ H Q I h => ?_⟩
  rw [eval_ListComp]
  exact lcG_core I h F hr hgl hm hk hb ha hc hN ok hcells hg ht he hdb hse hpl hfs fun D C s' m H' J q ns ⟨z0, z1, z2, z3, z4, z5⟩ =>
    ⟨m, ns, fun h2 sb => ⟨.ref D, H', J.turned (t' := s'.toks) (fun b o nb z => (sb.2 b nb).trans z) z0 z1 z3 z4 z5, rfl, q⟩⟩
theorem ps_setLcG {i : Nat} {y : Str} {py spos : Pos} (hy : X.N[i]? = some y) (hyl : X.env.scope.names.lookup y = some .local) (hsw : swapsWith (.ListComp elt [⟨tg, .Call (.Name x p) (e :: es) [] cpos, [tst], 0⟩] scope pos) (some (.Name y py)) spos.line X.env = pure true)
    (F : GnOk X.prog X.w X.K X.mg X.base k f fd ps sp) (hr : Room (k + 1) X.A) (hgl : Gl X x) (hm : X.mg x = some (.ref f)) (hk : PySem.W.keepIn X.K (.ref f) = true) (hb : Binds X.K fd ps []) (ha : PA X (e :: es) ta)
    (hc : X.calm = true) (hN : X.N.Nodup) (ok : BlkOk X.N X.env.scope scope own) (hcells : ∀ y ∈ scope.names, y.2 ≠ .cell)
    (hg : ∀ (s : Shared) (H : Hp) (C : Addr) (cl : List (Str × Addr)) (fp : List Addr), QG (X.blk s H scope (compEnvC scope cl C X.env) fp) tg g)
    (ht : ∀ (s : Shared) (H : Hp) (C : Addr) (cl : List (Str × Addr)) (fp : List Addr), QT (X.blk s H scope (compEnvC scope cl C X.env) fp) tst tt)
    (he : ∀ (s : Shared) (H : Hp) (C : Addr) (cl : List (Str × Addr)) (fp : List Addr), QE (X.blk s H scope (compEnvC scope cl C X.env) fp) elt te)
    (hdb : (x == ("__debug__" : Str)) = false := by decide) (hse : starEach (e :: es) X.env = (false, eval e X.env) :: starEach es X.env := by rfl) (hpl : (backTo cpos (starEach es X.env)).any (·.1) = false := by rfl)
    (hfs : ∀ z, foldedSetIterable (.Call (.Name x p) (e :: es) [] cpos) X.env z = pure z := by intro _; rfl) :
    PS X (.Assign [.Name y py] (.ListComp elt [⟨tg, .Call (.Name x p) (e :: es) [] cpos, [tst], 0⟩] scope pos) spos) (tAsg (tLcG sp ta g tt te (own.map (·.2))) (gName i)) := by
  refine ⟨fun pins s σ H Dn I hw => ?_⟩
  rw [exec_Assign_Name_used _ _ _ _ hsw]
  have ht' : tLcG sp ta g tt te (own.map (·.2)) σ H (fun v H1 => gName i v σ H1 Dn.nx) := hw
  have core := lcG_core (pos := pos) (use := some (assign (.Name y py) X.env)) (Qf := fun _ s' => SP X pins Dn .next s') (pos' := firstIterPos [⟨tg, .Call (.Name x p) (e :: es) [] cpos, [tst], 0⟩] pos) I ht' F hr hgl hm hk hb ha hc hN ok hcells hg ht he hdb hse hpl hfs fun L C s' m H' J q ns ⟨z0, z1, z2, z3, z4, z5⟩ => by
    show wpAny _ _ (assign (.Name y py) X.env (.ref L)) _ _ s'
    refine wpAny_assign_Name (store_ok2 (v := V.ref L) J hN hy (.inl hyl) rfl (fun s2 J2 ⟨b, sb, hb⟩ => ?_) (.inr hyl))
    have ne : C ≠ b := hb.elim (fun z => z ▸ z1) fun z z' => z4 y b z z'.symm
    exact ⟨m, ns.sameBut sb ne, fun h3 sb3 => ⟨_, H', J2.turned (t' := s2.toks) (fun c o nc z => (sb3.2 c nc).trans z) z0 z1 z3 z4 z5, q⟩⟩
  refine wpAny_bind (wpAny_standAt (wpAny_bind ?_))
  show wpAny _ _ (comprehension (.ListComp elt [⟨tg, .Call (.Name x p) (e :: es) [] cpos, [tst], 0⟩] scope pos) scope X.env (firstIterPos [⟨tg, .Call (.Name x p) (e :: es) [] cpos, [tst], 0⟩] pos) (newList []) false (eval (.Call (.Name x p) (e :: es) [] cpos) X.env) (some (assign (.Name y py) X.env)) >>= _) _ _ s
  exact wpAny_bind (wpAny_mono core (fun _ s' q => wpAny_pure (wpAny_pure q)) fun _ _ z => z)
end
end G

set_option Elab.async false
set_option linter.all false
set_option maxRecDepth 100000
set_option maxHeartbeats 4000000
/-! Rows of a program (data): blocks_of, rows_of. -/
namespace G
open PySem PySem.Spec PyProof.Rows L2
theorem td_tup {H : Hp} {v : V} {ds : List PyData} (h : TD H v (.tuple ds)) : ∃ a xs, v = .ref a ∧ H a = some (.tup xs) ∧ TDs H xs ds := by
  cases h with
  | tup h1 h2 => exact ⟨_, _, rfl, h1, h2⟩
theorem tds1 {H : Hp} {vs : List V} {d : PyData} (h : TDs H vs [d]) : ∃ v, vs = [v] ∧ TD H v d := by
  cases h with
  | cons h1 h2 => cases h2; exact ⟨_, rfl, h1⟩
theorem tds_cons {H : Hp} {vs : List V} {d : PyData} {ds : List PyData} (h : TDs H vs (d :: ds)) : ∃ v r, vs = v :: r ∧ TD H v d ∧ TDs H r ds := by
  cases h with
  | cons h1 h2 => exact ⟨_, _, rfl, h1, h2⟩
theorem TDs.at {H : Hp} : ∀ {vs : List V} {ds : List PyData} {i : Nat} {v : V}, TDs H vs ds → vs[i]? = some v → ∃ d, ds[i]? = some d ∧ TD H v d
  | _, _, i, v, .nil, h => by simp at h
  | _, _, 0, v, .cons h1 h2, h => by
    cases h
    exact ⟨_, rfl, h1⟩
  | _, _, i + 1, v, .cons h1 h2, h => TDs.at h2 (i := i) h
theorem Same.putN {H H' : Hp} {L : Addr} {o : HO} (s : Same H H') (h : H L = none) : Same H (upd H' L o) := (((Kp.same (S := [L]) s).put (by simp)).fresh h).toSame
def partsOf : Sta → List (List Sta)
  | .act _ => []
  | .cond _ y n => [y, n]
  | .rep _ b => [b]
def partD (b : List Sta) : PyData := .tuple (blkData b)
/-- statements so deep at most -/
def NestOk : Nat → Sta → Prop
  | _, .act _ => True
  | 0, _ => False
  | d + 1, .cond _ y n => (∀ s ∈ y, NestOk d s) ∧ ∀ s ∈ n, NestOk d s
  | d + 1, .rep _ b => ∀ s ∈ b, NestOk d s
theorem nest_of : ∀ {d : Nat} {s : Sta}, StaOk d s → NestOk d s
  | _, .act _, _ => by unfold NestOk; trivial
  | 0, .cond _ _ _, h => h.elim
  | 0, .rep _ _, h => h.elim
  | d + 1, .cond t y n, h => ⟨fun s hs => nest_of (h.2.1 s hs), fun s hs => nest_of (h.2.2 s hs)⟩
  | d + 1, .rep k b, h => fun s hs => nest_of (h.2 s hs)
/-! ### the rows on paper -/
mutual
def staRows : Nat → Sta → List (Nat × Sta)
  | d, .act a => [(d, .act a)]
  | d, .cond t y n => (d, .cond t y n) :: (rowsP (d + 1) y ++ rowsP (d + 1) n)
  | d, .rep k b => (d, .rep k b) :: rowsP (d + 1) b
def rowsP : Nat → List Sta → List (Nat × Sta)
  | _, [] => []
  | d, s :: r => staRows d s ++ rowsP d r
end
theorem rowsP_snoc (d : Nat) (s : Sta) : ∀ b : List Sta, rowsP d (b ++ [s]) = rowsP d b ++ staRows d s
  | [] => by show staRows d s ++ [] = [] ++ staRows d s; rw [List.append_nil]; rfl
  | x :: r => by
    show staRows d x ++ rowsP d (r ++ [s]) = staRows d x ++ rowsP d r ++ staRows d s
    rw [rowsP_snoc d s r, List.append_assoc]
mutual
theorem staRows_len : ∀ (d : Nat) (s : Sta), (staRows d s).length = s.size
  | d, .act a => rfl
  | d, .cond t y n => by
    show ((d, Sta.cond t y n) :: (rowsP (d + 1) y ++ rowsP (d + 1) n)).length = 1 + (sizeB y + sizeB n)
    rw [List.length_cons, List.length_append, rowsP_len (d + 1) y, rowsP_len (d + 1) n]
    omega
  | d, .rep k b => by
    show ((d, Sta.rep k b) :: rowsP (d + 1) b).length = 1 + sizeB b
    rw [List.length_cons, rowsP_len (d + 1) b]
    omega
theorem rowsP_len : ∀ (d : Nat) (b : List Sta), (rowsP d b).length = sizeB b
  | _, [] => rfl
  | d, s :: r => by
    show (staRows d s ++ rowsP d r).length = s.size + sizeB r
    rw [List.length_append, staRows_len d s, rowsP_len d r]
end
def rowD (p : Nat × Sta) : PyData := .tuple [.int p.1, p.2.data]
def accR (d : Nat) (bs : List (List Sta)) (i : Nat) : List (Nat × Sta) := (bs.take i).flatMap (rowsP (d + 1))
theorem staRows_acc (d : Nat) (s : Sta) : staRows d s = (d, s) :: accR d (partsOf s) (partsOf s).length := by
  unfold accR
  rw [List.take_length]
  cases s <;> simp [staRows, partsOf]
theorem accR_succ {d i : Nat} {bs : List (List Sta)} {b : List Sta} (h : bs[i]? = some b) : accR d bs (i + 1) = accR d bs i ++ rowsP (d + 1) b := by
  unfold accR
  rw [List.take_add_one, h, List.flatMap_append]
  simp
theorem accR_le (d : Nat) (s : Sta) (i : Nat) : (accR d (partsOf s) i).length ≤ s.size := by
  have e := staRows_len d s
  rw [staRows_acc, List.length_cons] at e
  have q : (accR d (partsOf s) i).length ≤ (accR d (partsOf s) (partsOf s).length).length := by
    unfold accR
    rw [List.take_length]
    conv => rhs; rw [← List.take_append_drop i (partsOf s), List.flatMap_append, List.length_append]
    omega
  omega
theorem size_take : ∀ (b : List Sta) (j : Nat), sizeB (b.take j) ≤ sizeB b
  | [], j => by rw [List.take_nil]; exact Nat.le_refl _
  | s :: r, 0 => Nat.zero_le _
  | s :: r, j + 1 => Nat.add_le_add_left (size_take r j) _
theorem size_mem : ∀ {b : List Sta} {s : Sta}, s ∈ b → s.size ≤ sizeB b
  | x :: r, s, h => by
    rcases List.mem_cons.mp h with rfl | h
    · exact Nat.le_add_right _ _
    · exact Nat.le_trans (size_mem h) (Nat.le_add_left _ _)
theorem parts_nest {d : Nat} {s : Sta} {i : Nat} {b : List Sta} (ok : NestOk d s) (h : (partsOf s)[i]? = some b) : ∃ d', d = d' + 1 ∧ (∀ z ∈ b, NestOk d' z) ∧ sizeB b ≤ s.size := by
  have hm := List.mem_of_getElem? h
  cases s with
  | act a => exact nomatch hm
  | cond t y n =>
    cases d with
    | zero => exact ok.elim
    | succ d =>
      refine ⟨d, rfl, ?_⟩
      have e : (Sta.cond t y n).size = 1 + (sizeB y + sizeB n) := rfl
      have ok : (∀ s ∈ y, NestOk d s) ∧ ∀ s ∈ n, NestOk d s := ok
      simp only [partsOf, List.mem_cons, List.not_mem_nil, or_false] at hm
      rcases hm with rfl | rfl
      · exact ⟨ok.1, by omega⟩
      · exact ⟨ok.2, by omega⟩
  | rep c y =>
    cases d with
    | zero => exact ok.elim
    | succ d =>
      refine ⟨d, rfl, ?_⟩
      have e : (Sta.rep c y).size = 1 + sizeB y := rfl
      have ok : ∀ s ∈ y, NestOk d s := ok
      simp only [partsOf, List.mem_cons, List.not_mem_nil, or_false] at hm
      subst hm
      exact ⟨ok, by omega⟩
theorem act_shape (a : Act) : ∃ (w : Str) (ds : List PyData), a.data = .tuple (.str w :: ds) ∧ inV (.str w) [.str "if", .str "repeat"] = false ∧ decide (V.str w = V.str "if") = false ∧ decide (V.str w = V.str "repeat") = false := by
  cases a <;> exact ⟨_, _, rfl, by decide +kernel, by decide +kernel, by decide +kernel⟩
theorem sIx_two (a b : V) (ys : List V) : HT.sIx (a :: b :: ys).length 0 (some 2) = 2 := by
  rw [show HT.sIx (a :: b :: ys).length 0 (some 2) = min 2 (a :: b :: ys).length from HT.sIx_nat _ 0 2]
  simp only [List.length_cons]
  omega
theorem sIx2 (a b : V) (ys : List V) : ¬ HT.sIx (a :: b :: ys).length 0 (some 2) = 0 := by
  rw [sIx_two]
  decide
theorem cut2 (a b : V) (ys : List V) : cutV (a :: b :: ys) (some 2) none = ys := by
  unfold cutV
  rw [sIx_two, HT.sIx_none]
  show List.take ((a :: b :: ys).length - 2) ys = ys
  exact List.take_of_length_le (by simp only [List.length_cons]; omega)
section
variable {P : Program} {w : World} {K : PySem.W.Frag} {mg : Str → Option Value} {base : Heap}
abbrev s_blocks_of : Stmt := top 8
abbrev n_blocks_of : List Str := ["statement"]
theorem sc_blocks_of : FnScope n_blocks_of ["statement"] (defScope s_blocks_of) := ⟨rfl, rfl, rfl, by decide +kernel, rfl, by decide +kernel, by decide +kernel⟩
def spBO : Sp := fun vs H Q _ => ∃ (v : V) (s : Sta), vs = [v] ∧ TD H v s.data ∧ ∀ (H' : Hp) (p : Addr) (xs : List V), Same H H' → H' p = some (.tup xs) → TDs H' xs ((partsOf s).map partD) → Q (.ref p) H'
theorem ok_bo {f : Addr} {fd : FuncData} {k : Nat} (F : Fun K "blocks_of" "blocks_of" s_blocks_of f fd) : FnOk P w K mg base CX0 (k + 1) f fd ["statement"] spBO := by
  refine F.ok sc_blocks_of (fun vs H Q E ⟨v, s, ev, _⟩ => by rw [ev]; rfl) (fun cdv A outer s0 H vs Q E hr ⟨v, s, ev, td, q⟩ => ?_)
  subst ev
  refine ⟨_, (pss_cons (ps_if (pt_cmpR op_in_seq (pe_ix ix_tup (pv 0) pe_int (fun _ _ => rfl)) (pe_tup (pa_cons pe_str (pa_cons pe_str pa_nil))) (by rfl))
      (pss_one (ps_ret (pe_slice sl_tupA (pv 0) (po_some pe_int) po_none)))
      pss_nil)
      (pss_one (ps_ret (pe_tup pa_nil)))), ?_⟩
  cases s with
  | act a =>
    obtain ⟨wd, ds, ea, ei, _, _⟩ := act_shape a
    have td : TD H v a.data := td
    rw [ea] at td
    obtain ⟨r, ys, rfl, gr, dss⟩ := td_tup td
    obtain ⟨v1, ys, rfl, d1, dss⟩ := tds_cons dss
    cases d1
    refine ⟨_, rfl, r, _, _, _, rfl, rfl, SqT.of gr, atI_nat (j := 0) rfl, line1000 (Nat.le_of_ble_eq_true rfl), fun t0 n0 => ⟨t0, _, rfl, .inr (SqT.of upd_same), rfl, rfl, _, rfl, ?_⟩⟩
    show if inV (.str wd) [.str "if", .str "repeat"] = true then _ else _
    rw [ei]
    exact iteF ⟨line1000 (Nat.zero_le _), fun t1 n1 => q _ t1 [] (Same.trans (Same.up n0) (Same.up n1)) upd_same .nil⟩
  | cond t y n =>
    have td : TD H v (.tuple [.str "if", t.data, .tuple (blkData y), .tuple (blkData n)]) := td
    obtain ⟨r, ys0, rfl, gr, e0⟩ := td_tup td
    obtain ⟨v1, ys1, rfl, d1, e1⟩ := tds_cons e0
    cases d1
    obtain ⟨v2, ys2, rfl, d2, e2⟩ := tds_cons e1
    refine ⟨_, rfl, r, _, _, _, rfl, rfl, SqT.of gr, atI_nat (j := 0) rfl, line1000 (Nat.le_of_ble_eq_true rfl), fun t0 n0 => ⟨t0, _, rfl, .inr (SqT.of upd_same), rfl, rfl, _, rfl, ?_⟩⟩
    have s0 := Same.up (o := HO.tup [V.str "if", V.str "repeat"]) n0
    refine iteT ⟨_, rfl, _, rfl, r, _, rfl, SqT.of (s0 _ _ gr), fun h => absurd h.1 (sIx2 _ _ _), fun _ p np => ?_⟩
    rw [cut2]
    have s1 := Same.trans s0 (Same.up (o := HO.tup ys2) np)
    exact q _ p ys2 s1 upd_same (TDs.ch (Ch.same (S := []) s1) _ _ e2)
  | rep k b =>
    have td : TD H v (.tuple [.str "repeat", .int k, .tuple (blkData b)]) := td
    obtain ⟨r, ys0, rfl, gr, e0⟩ := td_tup td
    obtain ⟨v1, ys1, rfl, d1, e1⟩ := tds_cons e0
    cases d1
    obtain ⟨v2, ys2, rfl, d2, e2⟩ := tds_cons e1
    refine ⟨_, rfl, r, _, _, _, rfl, rfl, SqT.of gr, atI_nat (j := 0) rfl, line1000 (Nat.le_of_ble_eq_true rfl), fun t0 n0 => ⟨t0, _, rfl, .inr (SqT.of upd_same), rfl, rfl, _, rfl, ?_⟩⟩
    have s0 := Same.up (o := HO.tup [V.str "if", V.str "repeat"]) n0
    refine iteT ⟨_, rfl, _, rfl, r, _, rfl, SqT.of (s0 _ _ gr), fun h => absurd h.1 (sIx2 _ _ _), fun _ p np => ?_⟩
    rw [cut2]
    have s1 := Same.trans s0 (Same.up (o := HO.tup ys2) np)
    exact q _ p ys2 s1 upd_same (TDs.ch (Ch.same (S := []) s1) _ _ e2)
end
end G

set_option Elab.async false
set_option linter.all false
set_option maxRecDepth 100000
set_option maxHeartbeats 4000000
/-! rows_of. -/
namespace G
open PySem PySem.Spec PyProof.Rows L2
def spRO (d : Nat) : Sp := fun vs H Q _ => ∃ (v : V) (b : List Sta) (k : Nat), vs = [v, .int (k : Int)] ∧ TD H v (partD b) ∧ (∀ s ∈ b, NestOk d s) ∧ sizeB b ≤ 10000 ∧ ∀ (H' : Hp) (p : Addr) (xs : List V), Same H H' → H p = none → H' p = some (.lst xs) → TDs H' xs ((rowsP k b).map rowD) → Q (.ref p) H'
def spRO' : Nat → Sp
  | 0 => fun _ _ _ _ => False
  | d + 1 => spRO d
section
variable {P : Program} {w : World} {K : PySem.W.Frag} {mg : Str → Option Value} {base : Heap}
abbrev s_rows_of : Stmt := top 9
abbrev n_rows_of : List Str := ["block", "depth", "rows", "statement", "inner"]
theorem sc_rows_of : FnScope n_rows_of ["block", "depth"] (defScope s_rows_of) := ⟨rfl, rfl, rfl, by decide +kernel, rfl, by decide +kernel, by decide +kernel⟩
theorem ok_ro {f fB fS : Addr} {fd dB dS : FuncData} {d k0 : Nat} (F : Fun K "rows_of" "rows_of" s_rows_of f fd)
    (DB : Df K mg "blocks_of" s_blocks_of ["statement"] fB dB) (GB : FnOk P w K mg base CX0 1 fB dB ["statement"] spBO)
    (mS : mg "rows_of" = some (.ref fS)) (kS : PySem.W.keepIn K (.ref fS) = true) (bS : Binds K dS ["block", "depth"] []) (hk0 : 1 ≤ k0) (GS : FnOk P w K mg base CX0 k0 fS dS ["block", "depth"] (spRO' d)) : FnOk P w K mg base CX0 (k0 + 1) f fd ["block", "depth"] (spRO d) := by
  refine F.ok sc_rows_of (fun vs H Q E ⟨v, b, k, ev, _⟩ => by rw [ev]; rfl) (fun cdv A outer s0 H vs Q E hr ⟨v, b, k, ev, td, ok, hz, q⟩ => ?_)
  subst ev
  have hr1 : Room 1 _ := hr.mono hk0
  refine ⟨_, (pss_cons (ps_set (i := 2) sc_rows_of.nd rfl (.inl rfl) (pe_lst pa_nil))
      (pss_cons (ps_for PassesOwn.never rfl (pi_tup (pv 0)) (pg_name (i := 3) sc_rows_of.nd rfl (.inl rfl))
      (pss_cons (ps_expr (pe_bm PySem.F.plainAttrs_list PySem.F.slot_list_append PySem.F.type_list_append mt_append (pv 2) (pa_cons (pe_tup (pa_cons (pv 1) (pa_cons (pv 3) pa_nil))) pa_nil)))
      (pss_one (ps_for PassesOwn.never rfl (pi_tup (pe_call GB hr1 (by rfl) DB.m DB.F.kp DB.b .nil pass0 (pa_cons (pv 3) pa_nil))) (pg_name (i := 4) sc_rows_of.nd rfl (.inl rfl))
      (pss_one (ps_expr (pe_bm PySem.F.plainAttrs_list PySem.F.slot_list_extend PySem.F.type_list_extend mt_extend (pv 2) (pa_cons (pe_call GS hr (by rfl) mS kS bS .nil pass0 (pa_cons (pv 4) (pa_cons (pe_op op_addE (pv 1) pe_int) pa_nil))) pa_nil))))))))
      (pss_one (ps_ret (pv 2))))), ?_⟩
  obtain ⟨r0, xs, rfl, gr0, tds⟩ := td_tup td
  refine ⟨Nat.zero_le _, fun Ln nLn => ?_⟩
  have s1 := Same.up (o := HO.lst []) nLn
  have gL1 : upd H Ln (HO.lst []) Ln = some (.lst []) := upd_same
  have gr1 := s1 _ _ gr0
  have tdsa := TDs.ch (Ch.same (S := []) s1) _ _ tds
  generalize upd H Ln (HO.lst []) = H1 at s1 gL1 gr1 tdsa ⊢
  refine ⟨_, rfl, r0, rfl, ⟨_, SqT.of gr1⟩, for_tup (xs := xs) (fun j σ H' => Ch [Ln] H1 H' ∧ ∃ (acc : List V) (x3 x4 : Option V), H' Ln = some (.lst acc) ∧ TDs H' acc ((rowsP k (b.take j)).map rowD) ∧ σ = [some (.ref r0), some (.int (k : Int)), some (.ref Ln), x3, x4])
    ⟨Ch.refl _ _, [], none, none, gL1, .nil, rfl⟩ (fun j σ H' _ h => SqT.of (h.1.tu _ _ gr1)) ?_ ?_⟩
  · rintro j x σ H' hx ⟨ch, acc, x3, x4, gL, tda, rfl⟩
    obtain ⟨dt, edt, tdv⟩ := (TDs.ch ch _ _ tdsa).at hx
    rw [blkData_eq, List.getElem?_map] at edt
    obtain ⟨s, hs, rfl⟩ := Option.map_eq_some_iff.mp edt
    have oks := ok s (List.mem_of_getElem? hs)
    have szs := size_mem (List.mem_of_getElem? hs)
    have la : acc.length ≤ 10000 := by
      rw [tda.len, List.length_map, rowsP_len]
      exact Nat.le_trans (size_take b j) hz
    have step : rowsP k (b.take (j + 1)) = rowsP k (b.take j) ++ staRows k s := by
      rw [List.take_add_one, hs]
      exact rowsP_snoc k s _
    refine ⟨_, rfl, .inl ⟨rfl, _, SqL.of gL⟩, _, rfl, _, rfl, line1000 (Nat.le_of_ble_eq_true rfl), fun t0 n0 => ?_⟩
    have s2 := Same.up (o := HO.tup [V.int (k : Int), x]) n0
    have gt : upd H' t0 (HO.tup [V.int (k : Int), x]) t0 = some (.tup [V.int (k : Int), x]) := upd_same
    have gL2 := s2 _ _ gL
    have c2 := ch.trans (Ch.same (S := [Ln]) s2)
    have tda2 := TDs.ch (Ch.same (S := []) s2) _ _ tda
    have tdx2 := TD.ch (Ch.same (S := []) s2) _ _ tdv
    generalize upd H' t0 (HO.tup [V.int (k : Int), x]) = H2 at s2 gt gL2 c2 tda2 tdx2 ⊢
    refine ⟨Ln, _, _, rfl, rfl, gL2, lt_line (by omega), ?_⟩
    have c3 : Ch [Ln] H2 (upd H2 Ln (.lst (acc ++ [.ref t0]))) := (Ch.refl _ _).put (by simp) gL2 (fun xs z => by cases z)
    have gL3 : upd H2 Ln (.lst (acc ++ [.ref t0])) Ln = some (.lst (acc ++ [.ref t0])) := upd_same
    have tda3 : TDs (upd H2 Ln (.lst (acc ++ [.ref t0]))) (acc ++ [.ref t0]) ((rowsP k (b.take j) ++ [(k, s)]).map rowD) := by
      rw [List.map_append]
      exact (TDs.ch c3 _ _ tda2).snoc (.tup (c3.tu _ _ gt) (.cons (.int _) (.cons (TD.ch c3 _ _ tdx2) .nil)))
    have tdx3 := TD.ch c3 _ _ tdx2
    have c23 := c2.trans c3
    generalize upd H2 Ln (.lst (acc ++ [.ref t0])) = H3 at c3 gL3 tda3 tdx3 c23 ⊢
    refine ⟨_, rfl, x, s, rfl, tdx3, fun H4 p ps s4 gp tdp => ?_⟩
    have lps : ps.length = (partsOf s).length := by rw [tdp.len, List.length_map]
    refine ⟨p, rfl, ⟨_, SqT.of gp⟩, for_tup (xs := ps) (fun i σ H' => Ch [Ln] H4 H' ∧ ∃ (ac : List V) (x4 : Option V), H' Ln = some (.lst ac) ∧ TDs H' ac ((rowsP k (b.take j) ++ [(k, s)] ++ accR k (partsOf s) i).map rowD) ∧ σ = [some (.ref r0), some (.int (k : Int)), some (.ref Ln), some x, x4])
      ⟨Ch.refl _ _, acc ++ [.ref t0], x4, s4 _ _ gL3, ?_, rfl⟩ (fun i σ H' _ h => SqT.of (h.1.tu _ _ gp)) ?_ ?_⟩
    · show TDs H4 _ ((rowsP k (b.take j) ++ [(k, s)] ++ []).map rowD)
      rw [List.append_nil]
      exact TDs.ch (Ch.same (S := []) s4) _ _ tda3
    · rintro i y σ H5 hy ⟨c5, ac, y4, gL5, td5, rfl⟩
      obtain ⟨dp, edp, tdy⟩ := (TDs.ch c5 _ _ tdp).at hy
      rw [List.getElem?_map] at edp
      obtain ⟨pb, hpb, rfl⟩ := Option.map_eq_some_iff.mp edp
      obtain ⟨d', rfl, okb, szb⟩ := parts_nest oks hpb
      have lac : ac.length ≤ 20001 := by
        have e1 := accR_le k s i
        have e2 := rowsP_len k (b.take j)
        have e3 := size_take b j
        rw [td5.len, List.length_map, List.length_append, List.length_append]
        show _ + 1 + _ ≤ 20001
        omega
      refine ⟨_, rfl, .inl ⟨rfl, _, SqL.of gL5⟩, _, rfl, _, rfl, _, _, rfl, rfl, fun z ez => ⟨y, pb, k + 1, by rw [show z = ((k + 1 : Nat) : Int) by omega]; rfl, tdy, okb, by omega, fun H6 qa zs s6 nq gq tdq => ⟨Ln, qa, _, _, rfl, rfl, s6 _ _ gL5, gq, Nat.le_of_lt (lt_line (by
        have e4 := rowsP_len (k + 1) pb
        rw [tdq.len, List.length_map]
        omega)), ?_⟩⟩⟩
      have c7 : Ch [Ln] H6 (upd H6 Ln (.lst (ac ++ zs))) := (Ch.refl _ _).put (by simp) (s6 _ _ gL5) (fun xs z => by cases z)
      refine ⟨c5.trans ((Ch.same s6).trans c7), ac ++ zs, _, upd_same, ?_, rfl⟩
      rw [accR_succ hpb, ← List.append_assoc, List.map_append]
      exact TDs.ch c7 _ _ ((TDs.ch (Ch.same (S := []) s6) _ _ td5).append tdq)
    · rintro σ H5 ⟨c5, ac, y4, gL5, td5, rfl⟩
      refine ⟨c23.trans ((Ch.same s4).trans c5), ac, _, _, gL5, ?_, rfl⟩
      rw [lps] at td5
      rw [step, staRows_acc, ← List.singleton_append, ← List.append_assoc]
      exact td5
  · rintro σ H' ⟨ch, acc, x3, x4, gL, tda, rfl⟩
    have lx : xs.length = b.length := by rw [tds.len, blkData_eq, List.length_map]
    rw [lx, List.take_length] at tda
    refine ⟨_, rfl, q H' Ln acc ?_ nLn gL tda⟩
    exact (Ch.lessS (S := []) ((Ch.same s1).trans ch) (fun a z => .inr (by rw [List.mem_singleton.mp z]; exact nLn))).kp.toSame
theorem ok_roAll {f fB : Addr} {fd dB : FuncData} (D : Df K mg "rows_of" s_rows_of ["block", "depth"] f fd)
    (DB : Df K mg "blocks_of" s_blocks_of ["statement"] fB dB) (GB : FnOk P w K mg base CX0 1 fB dB ["statement"] spBO) : FnOk P w K mg base CX0 7 f fd ["block", "depth"] (spRO 5) := by
  have Z : FnOk P w K mg base CX0 1 f fd ["block", "depth"] (spRO' 0) := ⟨fun _ _ _ _ h => h.elim, fun _ _ _ _ _ _ _ _ _ _ _ _ _ h => h.elim⟩
  have B0 := ok_ro (d := 0) D.F DB GB D.m D.F.kp D.b (by decide) Z
  have B1 := ok_ro (d := 1) D.F DB GB D.m D.F.kp D.b (by decide) B0
  have B2 := ok_ro (d := 2) D.F DB GB D.m D.F.kp D.b (by decide) B1
  have B3 := ok_ro (d := 3) D.F DB GB D.m D.F.kp D.b (by decide) B2
  have B4 := ok_ro (d := 4) D.F DB GB D.m D.F.kp D.b (by decide) B3
  exact ok_ro (d := 5) D.F DB GB D.m D.F.kp D.b (by decide) B4
end
end G

set_option Elab.async false
set_option linter.all false
set_option maxRecDepth 100000
set_option maxHeartbeats 4000000
/-! each_statement; places; wishes. -/
namespace G
open PySem PySem.Spec PyProof.Rows L2
def esR (b : List Sta) : Nat → V → Hp → Prop := fun i x H' => ∃ (t : Addr) (u : V) (p : Nat × Sta), (rowsP 0 b)[i]? = some p ∧ x = .ref t ∧ H' t = some (.tup [.int (i : Int), .int (p.1 : Int), u]) ∧ TD H' u p.2.data
def spES : SpY := fun vs H n R Ed => ∃ (v : V) (g : Int) (b : List Sta), vs = [v] ∧ TD H v (.tuple [.int g, partD b]) ∧ (∀ s ∈ b, NestOk 5 s) ∧ sizeB b ≤ 10000 ∧ n = (rowsP 0 b).length ∧ R = esR b ∧ Ed = fun H' => Same H H'
section
variable {P : Program} {w : World} {K : PySem.W.Frag} {mg : Str → Option Value} {base : Heap}
abbrev s_each_statement : Stmt := top 14
abbrev n_each_statement : List Str := ["program", "place", "depth", "statement"]
theorem sc_each_statement : GScope n_each_statement ["program"] (defScope s_each_statement) := ⟨rfl, rfl, rfl, by decide +kernel, rfl, by decide +kernel, by decide +kernel⟩
theorem ok_es {f fR : Addr} {fd dR : FuncData} (F : Fun K "each_statement" "each_statement" s_each_statement f fd) (z_enum : mg "enumerate" = none)
    (DR : Df K mg "rows_of" s_rows_of ["block", "depth"] fR dR) (GR : FnOk P w K mg base CX0 7 fR dR ["block", "depth"] (spRO 5)) : GnOk P w K mg base 8 f fd ["program"] spES := by
  refine gen_def F sc_each_statement (fun vs H n R Ed ⟨v, g, b, ev, _⟩ => by rw [ev]; rfl) (fun cdv A outer s H vs n R Ed pn hr ⟨v, g, b, ev, td, ok, hz, en, eR, eE⟩ => ?_)
  subst ev en eR eE
  refine ⟨_, _, _, _, _, _, _, _, _, rfl, pi_enum (by rfl) z_enum (pa_cons (pe_call GR hr (by rfl) DR.m DR.F.kp DR.b .nil pass0 (pa_cons (pe_ix ix_tup (pv 0) pe_int (fun _ _ => rfl)) (pa_cons pe_int pa_nil))) pa_nil),
    pg_tup rfl (pgs_cons (pg_name (i := 1) sc_each_statement.nd rfl (.inl rfl)) (pgs_cons (pg_tup rfl (pgs_cons (pg_name (i := 2) sc_each_statement.nd rfl (.inl rfl)) (pgs_cons (pg_name (i := 3) sc_each_statement.nd rfl (.inl rfl)) pgs_nil))) pgs_nil)),
    pe_tup (pa_cons (pv 1) (pa_cons (pv 2) (pa_cons (pv 3) pa_nil))), fun _ => rfl, ?_⟩
  obtain ⟨r0, xs, rfl, gr0, e0⟩ := td_tup td
  obtain ⟨v1, ys, rfl, d1, e1⟩ := tds_cons e0
  cases d1
  obtain ⟨v2, rfl, d2⟩ := tds1 e1
  refine ⟨_, rfl, r0, _, _, _, rfl, rfl, SqT.of gr0, atI_nat (j := 1) rfl, v2, b, 0, rfl, d2, ok, hz, fun H2 pl zs s2 np gp tdz => ⟨pl, zs, rfl, SqL.of gp, fun i σ H' => i ≤ (rowsP 0 b).length ∧ Same H2 H' ∧ ∃ x1 x2 x3 : Option V, σ = [some (.ref r0), x1, x2, x3], ⟨Nat.zero_le _, Same.refl _, none, none, none, rfl⟩, ?_⟩⟩
  have lz : zs.length = (rowsP 0 b).length := by rw [tdz.len, List.length_map]
  rintro i σ H' ⟨hi, sm, x1, x2, x3, rfl⟩
  by_cases hlt : i < (rowsP 0 b).length
  · refine .inr ⟨hlt, ⟨zs, zs[i]'(by omega), SqL.of (sm _ _ gp), List.getElem?_eq_getElem (by omega)⟩, ?_⟩
    rintro v H3 ⟨T, x, rfl, nT, rfl, hx⟩
    have hx : zs[i]? = some x := hx zs (SqL.of (sm _ _ gp))
    have s3 := Same.up (o := HO.tup [V.int (i : Int), x]) nT
    have gT : upd H' T (HO.tup [V.int (i : Int), x]) T = some (.tup [V.int (i : Int), x]) := upd_same
    generalize upd H' T (HO.tup [V.int (i : Int), x]) = H3 at s3 gT ⊢
    obtain ⟨dt, edt, tdv⟩ := (TDs.ch (Ch.same (S := []) (Same.trans sm s3)) _ _ tdz).at hx
    rw [List.getElem?_map] at edt
    obtain ⟨p, hp, rfl⟩ := Option.map_eq_some_iff.mp edt
    obtain ⟨tx, xs2, rfl, gtx, ex⟩ := td_tup tdv
    obtain ⟨u1, xs3, rfl, du1, ex2⟩ := tds_cons ex
    cases du1
    obtain ⟨u2, rfl, du2⟩ := tds1 ex2
    refine ⟨T, _, rfl, SqT.of gT, rfl, _, _, rfl, _, _, rfl, ⟨tx, _, rfl, SqT.of gtx, rfl, _, _, rfl, _, _, rfl, rfl, rfl, ?_⟩⟩
    refine ⟨_, rfl, _, rfl, _, rfl, line1000 (Nat.le_of_ble_eq_true rfl), fun t nt => ⟨⟨t, u2, p, hp, rfl, upd_same, TD.ch (Ch.same (S := []) (Same.up nt)) _ _ du2⟩, hlt, Same.trans sm (Same.trans s3 (Same.up nt)), _, _, _, rfl⟩⟩
  · obtain rfl : i = (rowsP 0 b).length := by omega
    exact .inl ⟨rfl, ⟨zs, SqL.of (sm _ _ gp), by omega⟩, Same.trans s2 sm⟩
end
end G

set_option Elab.async false
set_option linter.all false
set_option maxRecDepth 100000
set_option maxHeartbeats 4000000
/-! The same generator defs, drained by list(..): what was handed out is remembered. -/
namespace G
open PySem PySem.Spec PyProof.Rows L2 GenW
section
variable {X : Cx} {S : Addr} {A : Around} {n : Nat}
theorem list_loop {tg e : Expr} {yp ypos : Pos} {g : TG} {te : TE} {J : It} {it : Addr} {fp : List Addr} {tn : Nat → Heap → Prop} {p0 : Pos} {Fx : Value → Sem Unit} {Ws : Nat → List V → L2.St → Hp → Prop} {Qe : List V → Hp → Prop} {K0 : Flow → Sem PySem.Fin} {Jx : Value → Sem PySem.Fin} {bd : List Stmt}
    (hK0 : K0 .next = .pure (.done (.ret .none)))
    (hxe : ∀ e s, ¬ X.xe e s) (hc : X.calm = true) (T : Turn X.prog X.w X.K tg J fp it tn) (hg : PG X tg g) (he : PE X e te) (hpn : ∀ p ∈ X.pn, p.1 ≠ S) (hap : Apart X S)
    (hA : A.deeper X.env = X.A) (hco : X.env.scope.isCoroutine = false) (hin : interactive X.env = false)
    (hfp : ∀ b ∈ fp, b ≠ X.env.locals ∧ b ∉ X.fs ∧ (b ∈ X.ex ∨ X.s_0.heap.objs.size ≤ b) ∧ (∀ x c, X.env.cells.lookup x = some c → c ≠ b) ∧ (∀ p ∈ X.pn, p.1 ≠ b) ∧ b ≠ S) (hnt : n < sizeLine)
    (step : ∀ i ys σ H, Ws i ys σ H → (i = n ∧ J.stop i H ∧ Qe ys H) ∨ (i < n ∧ J.go i H ∧ ∀ x H', J.yld i H x H' → g x σ H' fun σ2 H2 => te σ2 H2 fun y H3 => Ws (i + 1) (ys ++ [y]) σ2 H3)) :
    ∀ (k i m : Nat) (s₀ s : Shared) (σ : L2.St) (H : Hp) (ys : List V) (ip : List (Addr × Obj)), k + i = n → ys.length = i → m + i = sizeLine → (∀ p ∈ ip, p.1 ≠ S ∧ (p.1 ∈ fp)) → Ws i ys σ H → GI X S ip ys σ H s → tn i s.heap → (∀ b ∈ fp, H b = none) →
      Seg (model X.prog X.w) A (GR X S (fun ys v H => v = .non ∧ Qe ys H) fun _ _ => False) (GY X S) m s₀ (.forLoop tg (.ref it) [.Expr (.Yield (some e) yp) ypos] [] X.env) ((model X.prog X.w).den (.forLoop tg (.ref it) [.Expr (.Yield (some e) yp) ypos] [] X.env))
        [.ret (fun r => ((match r with | .ok f => (.pure f : Sem Flow) | .error e => .raise e).onRaise Fx).wrap K0 Jx id id) none (id false) (id []) (.func bd X.env) p0 []] s := by
  intro k
  have ov : ∀ {kk : Result → Sem PySem.Fin} {c' : Code}, c'.weight = 0 → c'.cUnits = 0 → A.over c' [.ret kk none (id false) (id []) (.func bd X.env) p0 []] = X.A := fun hw hu => (over_loop hw hu).trans (over_func.trans hA)
  have drop : ∀ {ip : List (Addr × Obj)} {acc : Array Value} {c : Nat} {σ : L2.St} {H : Hp} {s : Shared}, Inv X ((S, lstObj acc c) :: ip) σ H s → Inv X [(S, lstObj acc c)] σ H s := fun I => I.pins_of fun p hp => I.pin p (List.mem_append_right _ (by rw [List.mem_singleton.mp hp]; exact List.mem_cons_self))
  have stat : ∀ {acc : Array Value} {c : Nat} {H : Hp}, (∀ b ∈ fp, H b = none) → ∀ b ∈ fp, FpOk X [(S, lstObj acc c)] H b := fun {acc c H} hn b hb => by
    obtain ⟨f1, f2, f3, f4, f5, f6⟩ := hfp b hb
    refine ⟨hn b hb, f1, f2, f3, f4, fun p hp => ?_⟩
    rcases List.mem_append.mp hp with q | q
    · exact f5 p q
    · rw [List.mem_singleton.mp q]; exact fun z => f6 z.symm
  induction k with
  | zero =>
    intro i m s₀ s σ H ys ip hi hl hm hip hW ⟨acc, c, ra, I⟩ st fr
    rcases step i ys σ H hW with ⟨ei, stop, ed⟩ | ⟨lt, _⟩
    · refine seg_turn (Kx := _) (fun f => rfl) ?_
      rw [ov rfl rfl]
      refine nofail (wpAny_mono (T.done X rfl rfl rfl hc i _ s σ H (fun _ _ => False) (drop I) (stat fr) st stop) (fun r s1 ⟨hr, I1⟩ => ?_) fun _ _ z => z)
      subst hr
      refine seg_leaf (.ok .next) ?_
      show Seg _ _ _ _ _ _ _ (K0 .next) _ _
      rw [hK0]
      exact seg_end (.ok (.ret .none)) ⟨ys, .non, [], σ, H, by omega, ⟨acc, c, ra, I1⟩, rfl, rfl, ed⟩
    · omega
  | succ k ih =>
    intro i m s₀ s σ H ys ip hi hl hm hip hW ⟨acc, c, ra, I⟩ st fr
    rcases step i ys σ H hW with ⟨ei, _⟩ | ⟨lt, go, nxt⟩
    · omega
    obtain ⟨m, rfl⟩ : ∃ m', m = m' + 1 := ⟨m - 1, by omega⟩
    refine seg_turn (Kx := _) (fun f => rfl) ?_
    rw [ov rfl rfl]
    refine nofail (wpAny_mono (T.item X rfl rfl rfl hc i _ s σ H (fun _ _ => False) (drop I) (stat fr) st go) (fun r s1 ⟨u, hr, h1⟩ => ?_) fun _ _ z => z)
    subst hr
    refine nofail (wpAny_mono h1 (fun _ s2 ⟨x, H2, I2, r2, y2, st2, fr2⟩ => ?_) fun _ _ z => z)
    have I2' := I2.pinned (stat fr2) (T.obj _ _ st2)
    refine wpAny_mono (hg.run _ s2 σ H2 x u _ I2' r2 (nxt x H2 y2)) (fun _ s3 ⟨σ3, H3, I3, q3⟩ => ?_) fun e s z => hxe e s z
    intro Hx
    refine seg_execs_cons ?_
    refine seg_Expr_Yield rfl rfl rfl ?_ hco hin
    rw [ov rfl rfl]
    refine wpAny_mono (he.run _ s3 σ3 H3 _ I3 q3) (fun v s4 ⟨y, H4, I4, r4, w4⟩ => ?_) fun e s z => (hxe e s z).elim
    intro kap hk
    have hip' : ∀ p ∈ pinsAt fp s2.heap, p.1 ≠ S ∧ p.1 ∈ fp := fun p hp => ⟨(hfp _ (of_pinsAt hp).1).2.2.2.2.2, (of_pinsAt hp).1⟩
    have G4 : GI X S (pinsAt fp s2.heap) ys σ3 H4 s4 := ⟨acc, c, ra, I4⟩
    refine ⟨ys, y, _, σ3, H4, by omega, r4, G4, fun s5 rs => hk .none s5 ?_⟩
    have G5 := G4.woken hpn (fun p hp => (hip' p hp).1) hap r4 rs
    have pin5 : ∀ b ∈ fp, ∀ o, s2.heap.get? b = some o → s5.heap.get? b = some o ∧ H4 b = none := fun b hb o eo =>
      let ⟨_, _, _, I5⟩ := G5
      let z := I5.pin (b, o) (List.mem_append_right _ (List.mem_cons_of_mem _ (mem_pinsAt hb eo)))
      ⟨z.1, z.2.1⟩
    refine seg_again rfl (ih (i + 1) m s5 s5 σ3 H4 (ys ++ [y]) _ (by omega) (by rw [List.length_append, hl]; rfl) (by omega) hip' w4 G5 (T.keep _ _ _ st2 fun b hb o eo => (pin5 b hb o eo).1) fun b hb => ?_)
    obtain ⟨o, eo, _⟩ := T.obj _ _ st2 b hb
    exact (pin5 b hb o eo).2
end
end G

set_option Elab.async false
set_option linter.all false
set_option maxRecDepth 100000
set_option maxHeartbeats 4000000
/-! Such a generator def's promise to list(..). -/
namespace G
open PySem PySem.Spec PyProof.Rows L2 GenW
def OneLoopL (X : Cx) (bd : List Stmt) (σ0 : L2.St) (H : Hp) (Qe : List V → Hp → Prop) : Prop := ∃ (n : Nat) (tg iter e : Expr) (yp ypos pos : Pos) (wi : TI) (g : TG) (te : TE), n < sizeLine ∧ bd = [.For tg iter [.Expr (.Yield (some e) yp) ypos] [] pos] ∧
  PI X tg iter wi ∧ PG X tg g ∧ PE X e te ∧ (∀ x, foldedSetIterable iter X.env x = pure x) ∧ wi σ0 H fun J H1 => ∃ Ws : Nat → List V → L2.St → Hp → Prop, Ws 0 [] σ0 H1 ∧
    ∀ i ys σ H, Ws i ys σ H → (i = n ∧ J.stop i H ∧ Qe ys H) ∨ (i < n ∧ J.go i H ∧ ∀ x H', J.yld i H x H' → g x σ H' fun σ2 H2 => te σ2 H2 fun y H3 => Ws (i + 1) (ys ++ [y]) σ2 H3)
theorem gfn_def {P : Program} {w : World} {K : PySem.W.Frag} {mg : Str → Option Value} {base : Heap} {x qual : Str} {st : Stmt} {f : Addr} {fd : FuncData} {N ps : List Str} {k : Nat} {sp : SpG} (F : Fun K x qual st f fd) (S : GScope N ps (defScope st))
    (len : ∀ vs H Q E, sp vs H Q E → vs.length = ps.length)
    (body : ∀ (cdv : Value) (A : Around) (outer : List Env) (s : Shared) (H : Hp) (vs : List V) (Q : List V → Hp → Prop) (E : XK) (pn : List (Addr × Obj)), Room k (A.deeper (envOfC qual (defScope st) s.heap.objs.size f cdv)) → sp vs H Q E →
      OneLoopL (gx P w K mg base N qual (defScope st) f cdv A outer s H pn) (defBody st) (start N vs) H Q) : GFn P w K mg base (k + 1) f fd ps sp := by
  obtain ⟨oc, od, kV, doc, pm, an, cdv, ct, osl, rfl, lk, hcd⟩ := F.ex
  refine ⟨len, fun A outer s H args us vs Q E hr e0 hb r hsp => ?_⟩
  have nvs := len _ _ _ _ hsp
  have old : ∀ b o, base.get? b = some o → s.heap.get? b = some o := fun b o e => (e0.bs b o e).1
  have kin : K.In s.heap := e0.mod.kin.keeps old
  have nol : s.heap.NoLimit := e0.mod.nolimit.keeps old
  have kinds : ∀ y ∈ ps.zip us, (defScope st).names.lookup y.1 = some .local ∨ ((defScope st).names.lookup y.1 = some .cell ∧
      ((cellsFrom (s.heap.objs.size + 1) (defScope st).names []).lookup y.1).isSome = true) := by
    rintro ⟨z, v⟩ hy
    cases S.par z (List.of_mem_zip hy).1 with
    | inl q => exact Or.inl q
    | inr q => exact Or.inr ⟨q, PySem.W.cellsFrom_some _ _ _ (Or.inl q)⟩
  refine codeAny_call_generator hr.depth (kin _ _ lk) rfl S.co S.gen rfl (PySem.W.codeRec_of kin hcd) (hb _ _ _ _ ?_)
  refine wpAny_newFunctionEnv_cells S.kind kinds fun env he s1 x1 => ?_
  subst he
  refine ⟨nol.keeps x1.toInCall.keep, ?_⟩
  have grow : ∀ b o, s.heap.get? b = some o → s1.heap.get? b = some o := x1.toInCall.keep
  have above : s.heap.objs.size < s1.heap.objs.size := x1.toInCall.ns.lt
  obtain ⟨os1, gens1⟩ : s1.os = s.os ∧ s1.gens = s.gens := by
    obtain ⟨_, _, z, _⟩ := x1.done
    rw [z]
    exact ⟨rfl, rfl⟩
  have made : ∀ (og : Obj) (v1 v2 : Value) (tt : Nat), og.cls = .type "generator" → og.data = .fields #[.int s1.gens.size 0, v1, v2] → og.slots = #[] → (∀ hp : Heap, (hp.push og).get? hp.objs.size = some og) →
      GMade P w (k + 1) outer H s [] Q E (.ref s1.heap.objs.size) { s1 with gens := s1.gens.push (.fresh (.func (defBody st) (envOfC qual (defScope st) s.heap.objs.size f cdv))), toks := tt, heap := s1.heap.push og } := by
    intro og v1 v2 tt c1 c2 c3 c4
    have is : ∀ {hp : Heap}, hp.get? s1.heap.objs.size = some og → hp.IsGen s1.heap.objs.size s1.gens.size := fun {hp} e => ⟨og, v1, v2, e, c1, c2, c3⟩
    refine ⟨_, _, _, rfl, Nat.le_of_lt above, ?_, is (c4 _), Array.getElem?_push_size .., os1, AllBare.push (by rw [gens1]; exact e0.bare) rfl, (nol.keeps grow).keeps fun b o e => Heap.get?_push_of_some _ e, fun b o e => Heap.get?_push_of_some _ (grow b o e), ?_⟩
    · show _ < (s1.heap.push og).objs.size
      rw [Heap.size_push]
      exact Nat.lt_succ_self _
    intro B D s2 roomB framesB youngD keep2 objD os2 bare2
    have e0B : Env0 P w K mg base B outer s H := { frames := framesB, mod := e0.mod, bs := e0.bs, bsz := e0.bsz, funs := e0.funs, frf := e0.frf, hok := e0.hok, bare := e0.bare }
    have Ia := inv_startG (E := E0) S roomB.hd e0B nvs r x1
    have at2 : s2.heap.get? s1.heap.objs.size = some og := keep2 _ _ (c4 _)
    have Ib := Ia.call' (s' := s2) (ch := []) (os2.trans os1.symm) (Un.kept fun b o e => keep2 b o (Heap.get?_push_of_some _ e)) (Ia.hok.kept fun b o e => keep2 b o (Heap.get?_push_of_some _ e)) bare2 (fun b z => nomatch z)
    have fresh1 : ∀ b, s1.heap.objs.size ≤ b → H b = none ∧ b ≠ s.heap.objs.size ∧ b ∉ frs outer ∧ s.heap.objs.size ≤ b ∧ ∀ y c, (cellsFrom (s.heap.objs.size + 1) (defScope st).names []).lookup y = some c → c ≠ b := fun b hb =>
      ⟨Ia.hok.fresh hb, Nat.ne_of_gt (Nat.lt_of_lt_of_le above hb), Ia.nofs hb, Nat.le_trans (Nat.le_of_lt above) hb, fun y c e z => by
        obtain ⟨vv, ob, ho, _⟩ := Ia.cell y c e
        exact absurd (Nat.lt_of_lt_of_le (Heap.lt_size ho) (z ▸ hb)) (Nat.lt_irrefl _)⟩
    have up : s1.heap.objs.size + 1 ≤ D := by
      have q : (s1.heap.push og).objs.size ≤ D := youngD
      rw [Heap.size_push] at q
      exact q
    obtain ⟨cD, eD⟩ := objD
    obtain ⟨d1, d2, d3, d4, d5⟩ := fresh1 D (Nat.le_of_succ_le up)
    have I : Inv (gx P w K mg base N qual (defScope st) f cdv B outer s H [(s1.heap.objs.size, og)]) [(D, lstObj #[] cD)] (start N vs) H s2 := gx_inv Ib fun p hp => by
      rcases List.mem_append.mp hp with q | q
      · rw [List.mem_singleton.mp q]
        obtain ⟨y1, y2, y3, _⟩ := fresh1 _ (Nat.le_refl s1.heap.objs.size)
        exact ⟨at2, y1, y2, y3, fun v z => by rw [c2] at z; cases z⟩
      · rw [List.mem_singleton.mp q]
        exact ⟨eD, d1, d2, d3, fun v z => by cases z⟩
    have neD : s1.heap.objs.size ≠ D := fun z => Nat.not_succ_le_self _ (Nat.le_trans up (Nat.le_of_eq z.symm))
    have hpn : ∀ p ∈ [(s1.heap.objs.size, og)], p.1 ≠ D := fun p hp => by rw [List.mem_singleton.mp hp]; exact neD
    obtain ⟨n, tg, iter, e, yp, ypos, pos, wi, g, te, few, eb, hi, hg, he, hf, hw⟩ := body cdv B outer s H vs Q E [(s1.heap.objs.size, og)] (roomB.deeper _) hsp
    have Gen : ∀ {ip : List (Addr × Obj)} {acc : Array Value} {c : Nat} {σ' : L2.St} {H' : Hp} {s' : Shared}, Inv (gx P w K mg base N qual (defScope st) f cdv B outer s H [(s1.heap.objs.size, og)]) ((D, lstObj acc c) :: ip) σ' H' s' → s'.heap.IsGen s1.heap.objs.size s1.gens.size := fun J => is (J.pin (s1.heap.objs.size, og) (List.mem_append_left _ (List.mem_singleton.mpr rfl))).1
    refine seg_imp (R := GR (gx P w K mg base N qual (defScope st) f cdv B outer s H [(s1.heap.objs.size, og)]) D (fun ys v H' => v = .non ∧ Q ys H') fun _ _ => False) (Y := GY (gx P w K mg base N qual (defScope st) f cdv B outer s H [(s1.heap.objs.size, og)]) D) (fun m s₀ rr sx hR => ?_) (fun m s₀ v sx kap kap' up' hY => ?_) sizeLine ?_
    · rcases rr with _ | fl
      · exact False.elim hR
      cases fl with
      | ret u =>
        obtain ⟨ys, v, ip, σ', H', hn, hI, rv, ev, hQ⟩ := hR
        subst ev
        obtain rfl : u = Value.none := rv
        obtain ⟨a1, _, _, acc, cc, ra, ea⟩ := hI.at
        obtain ⟨_, _, _, J⟩ := hI
        exact .inl ⟨.inl rfl, H', ys, acc, cc, J.os, J.bare, J.base, J.hok, a1, ea, ra, by omega, hQ⟩
      | _ => exact False.elim hR
    · obtain ⟨ys, xx, ip, σ', H', hn, h2, hI, h3⟩ := hY
      obtain ⟨_, _, _, acc, cc, ra, ea⟩ := hI.at
      obtain ⟨_, _, _, J⟩ := hI
      have sz : acc.size = ys.length := ra.length.symm.trans rfl ▸ (by simpa using ra.length.symm)
      exact ⟨J.os, J.bare, J.nolimit, Gen J, ⟨acc, cc, ea, by rw [sz]; exact hn⟩, fun s' z => up' _ _ (h3 s' z)⟩
    · rw [eb]
      refine seg_func (seg_execs_cons (seg_forStmt hf ?_))
      rw [over_func]
      refine wpAny_mono (hi.run _ s2 (start N vs) H _ I hw) (fun xv s3 h3 => wpAny_mono h3 (fun itv s4 h4 => ?_) fun _ _ q => q) fun _ _ q => q
      obtain ⟨it, fp, tn, J, H4, ei, I4, T, st4, f4, Ws, w0, step⟩ := h4
      subst ei
      intro p0 Fx
      refine list_loop rfl (fun _ _ q => q) rfl T hg he hpn ⟨d4, d2, d5⟩ rfl S.co (by show ((defScope st).kind == .module && _) = false; rw [S.kind]; rfl) (fun b hb => ?_) few step n 0 sizeLine s2 s4 _ H4 [] [] (Nat.add_zero _) rfl (Nat.add_zero _) (fun p hp => absurd hp List.not_mem_nil) w0 ⟨#[], cD, .nil, I4⟩ st4 fun b hb => (f4 b hb).1
      obtain ⟨f0, f1, f2, f3, f5, f6⟩ := f4 b hb
      exact ⟨f1, f2, f3, f5, fun p hp => f6 p (List.mem_append_left _ hp), fun z => f6 (D, lstObj #[] cD) (List.mem_append_right _ (List.mem_singleton.mpr rfl)) z.symm⟩
  exact made _ _ _ _ rfl rfl rfl fun hp => Heap.get?_push_size _ rfl
end G

set_option Elab.async false
set_option linter.all false
set_option maxRecDepth 100000
set_option maxHeartbeats 4000000
/-! each_statement, drained by list(..). -/
namespace G
open PySem PySem.Spec PyProof.Rows L2
/-- the rows (place, depth, statement) from place i on, as data -/
def plD (i : Nat) (p : Nat × Sta) : PyData := .tuple [.int (i : Int), .int (p.1 : Int), p.2.data]
def rowsD : Nat → List (Nat × Sta) → List PyData
  | _, [] => []
  | i, p :: r => plD i p :: rowsD (i + 1) r
theorem rowsD_len : ∀ (i : Nat) (l : List (Nat × Sta)), (rowsD i l).length = l.length
  | _, [] => rfl
  | i, p :: r => congrArg (· + 1) (rowsD_len (i + 1) r)
theorem rowsD_snoc : ∀ (i : Nat) (l : List (Nat × Sta)) (p : Nat × Sta), rowsD i (l ++ [p]) = rowsD i l ++ [plD (i + l.length) p]
  | _, [], _ => rfl
  | i, x :: r, p => by
    show plD i x :: rowsD (i + 1) (r ++ [p]) = _
    rw [rowsD_snoc (i + 1) r p]
    show _ = plD i x :: (rowsD (i + 1) r ++ [plD (i + (r.length + 1)) p])
    rw [show i + 1 + r.length = i + (r.length + 1) from by omega]
theorem rowsD_take {l : List (Nat × Sta)} {i : Nat} {p : Nat × Sta} (e : l[i]? = some p) : rowsD 0 (l.take (i + 1)) = rowsD 0 (l.take i) ++ [plD i p] := by
  have lt : i < l.length := (List.getElem?_eq_some_iff.mp e).1
  rw [List.take_add_one, e]
  show rowsD 0 (l.take i ++ [p]) = _
  rw [rowsD_snoc, List.length_take, Nat.zero_add, Nat.min_eq_left (Nat.le_of_lt lt)]
def spEL : SpG := fun vs H Q E => ∃ (v : V) (g : Int) (b : List Sta), vs = [v] ∧ TD H v (.tuple [.int g, partD b]) ∧ (∀ s ∈ b, NestOk 5 s) ∧ sizeB b ≤ 10000 ∧ ∀ (H' : Hp) (out : List V), Same H H' → TDs H' out (rowsD 0 (rowsP 0 b)) → Q out H'
section
variable {P : Program} {w : World} {K : PySem.W.Frag} {mg : Str → Option Value} {base : Heap}
theorem ok_el {f fR : Addr} {fd dR : FuncData} (F : Fun K "each_statement" "each_statement" s_each_statement f fd) (z_enum : mg "enumerate" = none)
    (DR : Df K mg "rows_of" s_rows_of ["block", "depth"] fR dR) (GR : FnOk P w K mg base CX0 7 fR dR ["block", "depth"] (spRO 5)) : GFn P w K mg base 8 f fd ["program"] spEL := by
  refine gfn_def F sc_each_statement (fun vs H Q E ⟨v, g, b, ev, _⟩ => by rw [ev]; rfl) (fun cdv A outer s H vs Q E pn hr ⟨v, g, b, ev, td, ok, hz, q⟩ => ?_)
  subst ev
  have lz0 : (rowsP 0 b).length ≤ 10000 := by rw [rowsP_len]; exact hz
  refine ⟨(rowsP 0 b).length, _, _, _, _, _, _, _, _, _, lt_line (by omega), rfl, pi_enum (by rfl) z_enum (pa_cons (pe_call GR hr (by rfl) DR.m DR.F.kp DR.b .nil pass0 (pa_cons (pe_ix ix_tup (pv 0) pe_int (fun _ _ => rfl)) (pa_cons pe_int pa_nil))) pa_nil),
    pg_tup rfl (pgs_cons (pg_name (i := 1) sc_each_statement.nd rfl (.inl rfl)) (pgs_cons (pg_tup rfl (pgs_cons (pg_name (i := 2) sc_each_statement.nd rfl (.inl rfl)) (pgs_cons (pg_name (i := 3) sc_each_statement.nd rfl (.inl rfl)) pgs_nil))) pgs_nil)),
    pe_tup (pa_cons (pv 1) (pa_cons (pv 2) (pa_cons (pv 3) pa_nil))), fun _ => rfl, ?_⟩
  obtain ⟨r0, xs, rfl, gr0, e0⟩ := td_tup td
  obtain ⟨v1, ys, rfl, d1, e1⟩ := tds_cons e0
  cases d1
  obtain ⟨v2, rfl, d2⟩ := tds1 e1
  refine ⟨_, rfl, r0, _, _, _, rfl, rfl, SqT.of gr0, atI_nat (j := 1) rfl, v2, b, 0, rfl, d2, ok, hz, fun H2 pl zs s2 np gp tdz => ⟨pl, zs, rfl, SqL.of gp, fun i acc σ H' => i ≤ (rowsP 0 b).length ∧ Same H2 H' ∧ TDs H' acc (rowsD 0 ((rowsP 0 b).take i)) ∧ ∃ x1 x2 x3 : Option V, σ = [some (.ref r0), x1, x2, x3], ⟨Nat.zero_le _, Same.refl _, .nil, none, none, none, rfl⟩, ?_⟩⟩
  have lz : zs.length = (rowsP 0 b).length := by rw [tdz.len, List.length_map]
  rintro i acc σ H' ⟨hi, sm, tda, x1, x2, x3, rfl⟩
  by_cases hlt : i < (rowsP 0 b).length
  · refine .inr ⟨hlt, ⟨zs, zs[i]'(by omega), SqL.of (sm _ _ gp), List.getElem?_eq_getElem (by omega)⟩, ?_⟩
    rintro v H3 ⟨T, x, rfl, nT, rfl, hx⟩
    have hx : zs[i]? = some x := hx zs (SqL.of (sm _ _ gp))
    have s3 := Same.up (o := HO.tup [V.int (i : Int), x]) nT
    have gT : upd H' T (HO.tup [V.int (i : Int), x]) T = some (.tup [V.int (i : Int), x]) := upd_same
    have tda := TDs.ch (Ch.same (S := []) s3) _ _ tda
    generalize upd H' T (HO.tup [V.int (i : Int), x]) = H3 at s3 gT tda ⊢
    obtain ⟨dt, edt, tdv⟩ := (TDs.ch (Ch.same (S := []) (Same.trans sm s3)) _ _ tdz).at hx
    rw [List.getElem?_map] at edt
    obtain ⟨p, hp, rfl⟩ := Option.map_eq_some_iff.mp edt
    obtain ⟨tx, xs2, rfl, gtx, ex⟩ := td_tup tdv
    obtain ⟨u1, xs3, rfl, du1, ex2⟩ := tds_cons ex
    cases du1
    obtain ⟨u2, rfl, du2⟩ := tds1 ex2
    refine ⟨T, _, rfl, SqT.of gT, rfl, _, _, rfl, _, _, rfl, ⟨tx, _, rfl, SqT.of gtx, rfl, _, _, rfl, _, _, rfl, rfl, rfl, ?_⟩⟩
    refine ⟨_, rfl, _, rfl, _, rfl, line1000 (Nat.le_of_ble_eq_true rfl), fun t nt => ⟨hlt, Same.trans sm (Same.trans s3 (Same.up nt)), ?_, _, _, _, rfl⟩⟩
    rw [rowsD_take hp]
    exact (TDs.ch (Ch.same (S := []) (Same.up nt)) _ _ tda).snoc (.tup upd_same (.cons (.int _) (.cons (.int _) (.cons (TD.ch (Ch.same (S := []) (Same.up nt)) _ _ du2) .nil))))
  · obtain rfl : i = (rowsP 0 b).length := by omega
    rw [List.take_length] at tda
    exact .inl ⟨rfl, ⟨zs, SqL.of (sm _ _ gp), by omega⟩, q _ _ (Same.trans s2 sm) tda⟩
end
end G

set_option Elab.async false
set_option linter.all false
set_option maxRecDepth 100000
set_option maxHeartbeats 4000000
/-! The places of statements of a kind; the words in wish statements. -/
namespace G
open PySem PySem.Spec PyProof.Rows L2
def headA : Act → Str
  | .make _ => "make"
  | .wish _ _ => "wish"
  | .keep _ => "keep"
  | .name _ _ => "name"
  | .drop _ => "drop"
  | .hold _ _ _ => "hold"
  | .weak _ _ _ => "weak"
  | .cut _ _ => "cut"
  | .take _ _ _ => "take"
  | .say _ => "say"
  | .ask _ => "ask"
def headS : Sta → Str
  | .act a => headA a
  | .cond _ _ _ => "if"
  | .rep _ _ => "repeat"
theorem sta_head (s : Sta) : ∃ ds, s.data = .tuple (.str (headS s) :: ds) := by
  cases s with
  | act a => cases a <;> exact ⟨_, rfl⟩
  | cond t y n => exact ⟨_, rfl⟩
  | rep k b => exact ⟨_, rfl⟩
def placesW (w : Str) : Nat → List (Nat × Sta) → List Int
  | _, [] => []
  | i, p :: r => if headS p.2 = w then (i : Int) :: placesW w (i + 1) r else placesW w (i + 1) r
theorem places_of (w : Str) : ∀ (l : List (Nat × Sta)) (k : Nat) (os : List (Option V)), os.length = l.length → (∀ i o, os[i]? = some o → ∀ p : Nat × Sta, l[i]? = some p → o = if headS p.2 = w then some (V.int ((k + i : Nat) : Int)) else none) →
    os.filterMap id = (placesW w k l).map V.int
  | [], k, os, e, _ => by rw [List.length_eq_zero_iff.mp e]; rfl
  | p :: r, k, [], e, _ => by cases e
  | p :: r, k, o :: os, e, h => by
    have h0 := h 0 o rfl p rfl
    have ih := places_of w r (k + 1) os (by simpa using e) fun i o' h1 p' h2 => by
      rw [h (i + 1) o' h1 p' h2]
      rw [show k + (i + 1) = k + 1 + i from by omega]
    show (o :: os).filterMap id = (if headS p.2 = w then (k : Int) :: placesW w (k + 1) r else placesW w (k + 1) r).map V.int
    by_cases c : headS p.2 = w
    · rw [if_pos c] at h0 ⊢
      rw [h0]
      show V.int ((k + 0 : Nat) : Int) :: os.filterMap id = _
      rw [ih]
      rfl
    · rw [if_neg c] at h0 ⊢
      rw [h0]
      exact ih
def spPW : Sp := fun vs H Q _ => ∃ (v : V) (g : Int) (b : List Sta) (wd : Str), vs = [v, .str wd] ∧ TD H v (.tuple [.int g, partD b]) ∧ (∀ s ∈ b, NestOk 5 s) ∧ sizeB b ≤ 10000 ∧
  ∀ (H' : Hp) (p : Addr), Same H H' → H' p = some (.tup ((placesW wd 0 (rowsP 0 b)).map V.int)) → Q (.ref p) H'
def spPl (wd : Str) : Sp := fun vs H Q E => ∃ v, vs = [v] ∧ spPW [v, .str wd] H Q E
theorem qv {X : Cx} (i : Nat) {x : Str} {pos : Pos} (hN : X.N[i]? = some x := by rfl) (hv : Vis X.env.scope x := by first | exact Or.inl rfl | exact Or.inr (Or.inl rfl) | exact Or.inr (Or.inr rfl)) (hd : (x == ("__debug__" : Str)) = false := by decide) (hcd : (x == ("__classdict__" : Str)) = false := by decide) : QE X (.Name x pos) (tVar i) := qe_var i hN hv hd hcd
theorem decS {x y : Str} : decide (V.str x = V.str y) = true ↔ x = y := by
  rw [decide_eq_true_eq]
  exact ⟨fun h => by injection h, fun h => by rw [h]⟩
section
variable {P : Program} {w : World} {K : PySem.W.Frag} {mg : Str → Option Value} {base : Heap}
abbrev s__places_with : Stmt := top 16
abbrev n__places_with : List Str := ["program", "word", "place", "_", "statement"]
theorem sc__places_with : FnScope n__places_with ["program", "word"] (defScope s__places_with) := ⟨rfl, rfl, rfl, by decide +kernel, rfl, by decide +kernel, by decide +kernel⟩
theorem ok_pw {f fE : Addr} {fd dE : FuncData} (F : Fun K "_places_with" "_places_with" s__places_with f fd) (z_tuple : mg "tuple" = none) (DE : Df K mg "each_statement" s_each_statement ["program"] fE dE) (GE : GnOk P w K mg base 8 fE dE ["program"] spES) : FnOk P w K mg base CX0 10 f fd ["program", "word"] spPW := by
  refine F.ok sc__places_with (fun vs H Q E ⟨v, g, b, wd, ev, _⟩ => by rw [ev]; rfl) (fun cdv A outer s H vs Q E hr ⟨v, g, b, wd, ev, td, ok, hz, q⟩ => ?_)
  subst ev
  have lz0 : (rowsP 0 b).length ≤ 10000 := by rw [rowsP_len]; exact hz
  refine ⟨_, (pss_one (ps_ret (pe_callTy call_tuple_of (by rfl) z_tuple (by decide +kernel) (pa_cons (pe_lcG (g := gTup K 3 (gCons (gName 2) (gCons (gName 3) (gCons (gName 4) gNil)))) (tt := tEqS (tOp (rIxT K) (tVar 4) (tC (.int 0))) (tVar 1)) (own := [("place", 2), ("_", 3), ("statement", 4)]) GE (hr.mono (by omega)) (by rfl) DE.m DE.F.kp DE.b (pa_cons (pv 0) pa_nil) rfl sc__places_with.nd (blkOk_by (N := n__places_with) (sc := defScope s__places_with) (by decide +kernel)) (by decide +kernel)
      (fun _ _ _ _ _ => qg_tup rfl (qgs_cons (qg_name (i := 2) sc__places_with.nd rfl rfl) (qgs_cons (qg_name (i := 3) sc__places_with.nd rfl rfl) (qgs_cons (qg_name (i := 4) sc__places_with.nd rfl rfl) qgs_nil))))
      (fun _ _ _ _ _ => qt_eq (qe_ix (qv 4) qe_int (fun _ _ => rfl)) (qv 1) (by rfl)) (fun _ _ _ _ _ => qv 2)) pa_nil)))), ?_⟩
  refine ⟨_, rfl, _, _, _, fun i o => ∀ p : Nat × Sta, (rowsP 0 b)[i]? = some p → o = if headS p.2 = wd then some (V.int ((0 + i : Nat) : Int)) else none, ⟨v, g, b, rfl, td, ok, hz, rfl, rfl, rfl⟩, lt_line (by omega), ?_, ?_, ?_⟩
  · rintro i x H2 H3 sm ⟨t, u, p, hp, rfl, ht, hu⟩
    exact ⟨t, u, p, hp, rfl, sm _ _ ht, TD.ch (Ch.same (S := []) sm) _ _ hu⟩
  · rintro i x H' hi ⟨t, u, p, hp, rfl, ht, hu⟩
    obtain ⟨ds, eds⟩ := sta_head p.2
    rw [eds] at hu
    obtain ⟨r, xs, rfl, gr, dd⟩ := td_tup hu
    obtain ⟨v1, xs, rfl, d1, dd⟩ := tds_cons dd
    cases d1
    refine ⟨t, _, rfl, SqT.of ht, rfl, _, _, rfl, _, _, rfl, _, _, rfl, rfl, rfl, rfl, _, rfl, r, _, _, _, rfl, rfl, SqT.of gr, atI_nat (j := 0) rfl, _, rfl, _, _, rfl, rfl, rfl, ?_⟩
    by_cases c : headS p.2 = wd
    · rw [if_pos (decS.mpr c)]
      refine ⟨_, rfl, rfl, fun p' hp' => ?_⟩
      rw [hp] at hp'
      cases hp'
      rw [if_pos c, Nat.zero_add]
    · rw [if_neg (fun z => c (decS.mp z))]
      intro p' hp'
      rw [hp] at hp'
      cases hp'
      rw [if_neg c]
  · intro H' D os hD sm el hY
    have e := places_of wd (rowsP 0 b) 0 os el hY
    refine ⟨D, _, rfl, .inl ⟨SqL.of upd_same, fun l hl => ?_⟩⟩
    rw [e]
    exact q _ l (Same.trans sm (Same.trans (Same.up hD) (Same.up (by rw [e] at hl; exact hl)))) upd_same
abbrev s_make_places : Stmt := top 17
abbrev n_make_places : List Str := ["program"]
theorem sc_make_places : FnScope n_make_places ["program"] (defScope s_make_places) := ⟨rfl, rfl, rfl, by decide +kernel, rfl, by decide +kernel, by decide +kernel⟩
theorem ok_mp {f fW : Addr} {fd dW : FuncData} (F : Fun K "make_places" "make_places" s_make_places f fd) (DW : Df K mg "_places_with" s__places_with ["program", "word"] fW dW) (GW : FnOk P w K mg base CX0 10 fW dW ["program", "word"] spPW) : FnOk P w K mg base CX0 11 f fd ["program"] (spPl "make") := by
  refine F.ok sc_make_places (fun vs H Q E ⟨v, ev, _⟩ => by rw [ev]; rfl) (fun cdv A outer s H vs Q E hr ⟨v, ev, q⟩ => ?_)
  subst ev
  refine ⟨_, (pss_one (ps_ret (pe_call GW hr (by rfl) DW.m DW.F.kp DW.b .nil pass0 (pa_cons (pv 0) (pa_cons pe_str pa_nil))))), ?_⟩
  exact ⟨_, rfl, q⟩
abbrev s_weak_places : Stmt := top 18
abbrev n_weak_places : List Str := ["program"]
theorem sc_weak_places : FnScope n_weak_places ["program"] (defScope s_weak_places) := ⟨rfl, rfl, rfl, by decide +kernel, rfl, by decide +kernel, by decide +kernel⟩
theorem ok_wp {f fW : Addr} {fd dW : FuncData} (F : Fun K "weak_places" "weak_places" s_weak_places f fd) (DW : Df K mg "_places_with" s__places_with ["program", "word"] fW dW) (GW : FnOk P w K mg base CX0 10 fW dW ["program", "word"] spPW) : FnOk P w K mg base CX0 11 f fd ["program"] (spPl "weak") := by
  refine F.ok sc_weak_places (fun vs H Q E ⟨v, ev, _⟩ => by rw [ev]; rfl) (fun cdv A outer s H vs Q E hr ⟨v, ev, q⟩ => ?_)
  subst ev
  refine ⟨_, (pss_one (ps_ret (pe_call GW hr (by rfl) DW.m DW.F.kp DW.b .nil pass0 (pa_cons (pv 0) (pa_cons pe_str pa_nil))))), ?_⟩
  exact ⟨_, rfl, q⟩
end
end G

set_option Elab.async false
set_option linter.all false
set_option maxRecDepth 100000
set_option maxHeartbeats 4000000
/-! _law_flat: the statements of a block, those within too. -/
namespace G
open PySem PySem.Spec PyProof.Rows L2
theorem same_put {H H1 H2 : Hp} {L : Addr} (s : Same H H1) (n : H L = none) (c : Ch [L] H1 H2) : Same H H2 :=
  (Ch.lessS (S := []) ((Ch.same s).trans c) (fun a z => .inr (by rw [List.mem_singleton.mp z]; exact n))).kp.toSame
def sndD (p : Nat × Sta) : PyData := p.2.data
def spFl (d : Nat) : Sp := fun vs H Q _ => ∃ (v : V) (b : List Sta) (k : Nat), vs = [v] ∧ TD H v (partD b) ∧ (∀ s ∈ b, NestOk d s) ∧ sizeB b ≤ 10000 ∧ ∀ (H' : Hp) (p : Addr) (xs : List V), Same H H' → H p = none → H' p = some (.lst xs) → TDs H' xs ((rowsP k b).map sndD) → Q (.ref p) H'
def spFl' : Nat → Sp
  | 0 => fun _ _ _ _ => False
  | d + 1 => spFl d
end G

set_option Elab.async false
set_option linter.all false
set_option maxRecDepth 100000
set_option maxHeartbeats 4000000
/-! Data that may be printed; its bounds (as W15, W16 of wip/gen). -/
namespace G
open PySem PySem.Spec PyProof.Rows L2
def intS (i : Nat) : Str := Str.ofString (toString (i : Int))
theorem intS_len : ∀ i < 100, (intS i).length ≤ 2 := by decide +kernel
theorem log13 {i : Nat} (h : i < 13) : ((i : Nat) : Int).natAbs.log2 < 1920 := Nat.lt_of_le_of_lt (Nat.log2_le_self _) (by omega)
mutual
theorem TD.dp {K : PySem.W.Frag} {H : Hp} : ∀ (d : PyData) (v : V), TD H v d → Dp K H v d
  | .none, _, h => by cases h; exact .non
  | .bool b, _, h => by cases h; exact .bl b
  | .int i, _, h => by cases h; exact .int i
  | .str x, _, h => by cases h; exact .str x
  | .list ds, _, h => nomatch h
  | .tuple ds, _, h => by
    cases h with
    | tup h1 h2 => exact .tup (SqT.of h1) (TDs.dp ds _ h2)
  | .dict _, _, h => nomatch h
theorem TDs.dp {K : PySem.W.Frag} {H : Hp} : ∀ (ds : List PyData) (vs : List V), TDs H vs ds → DpAll K H vs ds
  | [], _, h => by cases h; exact .nil
  | d :: ds, _, h => by
    cases h with
    | cons h1 h2 => exact .cons (TD.dp d _ h1) (TDs.dp ds _ h2)
end
/-! ### the items' bounds -/
structure ShowyS (ds : List PyData) (p n : Nat) : Prop where
  s : PyData.showableAll ds = true
  h : PyData.hasDictAll ds = false
  o : OkDs ds
  p : PyData.depthAll ds ≤ p
  b : bigs ds ≤ n
structure ShowyP (d : PyData) (p n : Nat) : Prop where
  s : d.showable = true
  h : d.hasDict = false
  o : OkD d
  p : d.depth ≤ p
  b : big d ≤ n
theorem ShowyS.nil {p : Nat} : ShowyS [] p 0 := ⟨rfl, rfl, trivial, Nat.zero_le _, Nat.zero_le _⟩
theorem ShowyS.cons {d : PyData} {ds : List PyData} {p n m : Nat} (a : ShowyP d p n) (b : ShowyS ds p m) : ShowyS (d :: ds) p (n + 2 + m) := by
  have a4 := a.p
  have a5 := a.b
  have b4 := b.p
  have b5 := b.b
  refine ⟨?_, ?_, ⟨a.o, b.o⟩, ?_, ?_⟩
  · simp only [PyData.showableAll, a.s, b.s, Bool.and_self]
  · simp only [PyData.hasDictAll, a.h, b.h, Bool.or_self]
  · simp only [PyData.depthAll]
    omega
  · simp only [bigs]
    omega
theorem ShowyS.tup {ds : List PyData} {p n : Nat} (a : ShowyS ds p n) : ShowyP (.tuple ds) (p + 1) (n + 4) :=
  ⟨a.s, a.h, a.o, Nat.add_le_add_right a.p 1, Nat.add_le_add_right a.b 4⟩
theorem ShowyP.mono {d : PyData} {p n p' n' : Nat} (a : ShowyP d p n) (hp : p ≤ p') (hn : n ≤ n') : ShowyP d p' n' := ⟨a.s, a.h, a.o, Nat.le_trans a.p hp, Nat.le_trans a.b hn⟩
theorem ShowyS.mono {d : List PyData} {p n p' n' : Nat} (a : ShowyS d p n) (hp : p ≤ p') (hn : n ≤ n') : ShowyS d p' n' := ⟨a.s, a.h, a.o, Nat.le_trans a.p hp, Nat.le_trans a.b hn⟩
theorem showy_nm {x : Str} (h : Nm x) (p : Nat) : ShowyP (.str x) p 82 := ⟨rfl, rfl, h.2, Nat.zero_le _, by have := h.1; show 10 * x.length + 2 ≤ 82; omega⟩
theorem showy_kw (s : String) (h : s.length ≤ 8) (p : Nat) : ShowyP (.str (Str.ofString s)) p 82 := ⟨rfl, rfl, OkS.of s, Nat.zero_le _, by
  have e : (Str.ofString s).length = s.length := by
    show (Str.ofString s).cps.size = _
    rw [← Array.length_toList, PyProof.Rows.signs_ofString, List.length_map]
    rfl
  show 10 * (Str.ofString s).length + 2 ≤ 82
  omega⟩
theorem showy_int {i : Nat} (h : i < 13) (p : Nat) : ShowyP (.int (i : Int)) p 82 := ⟨decide_eq_true (log13 h), rfl, trivial, Nat.zero_le _, Nat.le_trans (intS_len i (by omega)) (by decide)⟩
theorem showy_tst : ∀ (t : Tst), t.nm → ShowyP t.data (t.depth + 1) (400 + 100 * t.depth)
  | .given i, h => by
    have h : i < 4 := h
    exact (((showy_kw "given" (by decide) 0).mono (Nat.le_refl _) (Nat.le_refl _) |> fun a => ShowyS.cons a (ShowyS.cons (showy_int (by omega) 0) .nil)).tup).mono (Nat.le_refl _) (Nat.le_of_ble_eq_true rfl)
  | .set x, h => (ShowyS.cons (showy_kw "set" (by decide) 0) (ShowyS.cons (showy_nm h 0) .nil)).tup.mono (Nat.le_refl _) (Nat.le_of_ble_eq_true rfl)
  | .same x y, h => (ShowyS.cons (showy_kw "same" (by decide) 0) (ShowyS.cons (showy_nm h.1 0) (ShowyS.cons (showy_nm h.2 0) .nil))).tup.mono (Nat.le_refl _) (Nat.le_of_ble_eq_true rfl)
  | .full x y, h => (ShowyS.cons (showy_kw "full" (by decide) 0) (ShowyS.cons (showy_nm h.1 0) (ShowyS.cons (showy_nm h.2 0) .nil))).tup.mono (Nat.le_refl _) (Nat.le_of_ble_eq_true rfl)
  | .wished x, h => (ShowyS.cons (showy_kw "wished" (by decide) 0) (ShowyS.cons (showy_nm h 0) .nil)).tup.mono (Nat.le_refl _) (Nat.le_of_ble_eq_true rfl)
  | .not t, h => by
    have ih := showy_tst t h
    refine ((ShowyS.cons (showy_kw "not" (by decide) _) (ShowyS.cons ih .nil)).tup).mono (Nat.le_refl _) ?_
    show 82 + 2 + (400 + 100 * t.depth + 2 + 0) + 4 ≤ 400 + 100 * (t.depth + 1)
    omega
theorem showy_tst' {t : Tst} (h : t.ok) : ShowyP t.data 4 700 := (showy_tst t h.1).mono (by have := h.2; omega) (by have := h.2; omega)
theorem showy_act {a : Act} (h : a.nm) : ShowyP a.data 5 900 := by
  cases a with
  | make x => exact (ShowyS.cons (showy_kw "make" (by decide) 0) (ShowyS.cons (showy_nm h 0) .nil)).tup.mono (by decide) (by decide)
  | keep x => exact (ShowyS.cons (showy_kw "keep" (by decide) 0) (ShowyS.cons (showy_nm h 0) .nil)).tup.mono (by decide) (by decide)
  | drop x => exact (ShowyS.cons (showy_kw "drop" (by decide) 0) (ShowyS.cons (showy_nm h 0) .nil)).tup.mono (by decide) (by decide)
  | say x => exact (ShowyS.cons (showy_kw "say" (by decide) 0) (ShowyS.cons (showy_nm h 0) .nil)).tup.mono (by decide) (by decide)
  | wish x y => exact (ShowyS.cons (showy_kw "wish" (by decide) 0) (ShowyS.cons (showy_nm h.1 0) (ShowyS.cons (showy_nm h.2 0) .nil))).tup.mono (by decide) (by decide)
  | name x y => exact (ShowyS.cons (showy_kw "name" (by decide) 0) (ShowyS.cons (showy_nm h.1 0) (ShowyS.cons (showy_nm h.2 0) .nil))).tup.mono (by decide) (by decide)
  | cut x y => exact (ShowyS.cons (showy_kw "cut" (by decide) 0) (ShowyS.cons (showy_nm h.1 0) (ShowyS.cons (showy_nm h.2 0) .nil))).tup.mono (by decide) (by decide)
  | hold x y z => exact (ShowyS.cons (showy_kw "hold" (by decide) 0) (ShowyS.cons (showy_nm h.1 0) (ShowyS.cons (showy_nm h.2.1 0) (ShowyS.cons (showy_nm h.2.2 0) .nil)))).tup.mono (by decide) (by decide)
  | weak x y z => exact (ShowyS.cons (showy_kw "weak" (by decide) 0) (ShowyS.cons (showy_nm h.1 0) (ShowyS.cons (showy_nm h.2.1 0) (ShowyS.cons (showy_nm h.2.2 0) .nil)))).tup.mono (by decide) (by decide)
  | take x y z => exact (ShowyS.cons (showy_kw "take" (by decide) 0) (ShowyS.cons (showy_nm h.1 0) (ShowyS.cons (showy_nm h.2.1 0) (ShowyS.cons (showy_nm h.2.2 0) .nil)))).tup.mono (by decide) (by decide)
  | ask t => exact (ShowyS.cons (showy_kw "ask" (by decide) 4) (ShowyS.cons (showy_tst' h) .nil)).tup.mono (by decide) (by decide)
theorem sz1 (s : Sta) : 1 ≤ s.size := by cases s <;> first | exact Nat.le_refl 1 | exact Nat.le_add_right 1 _
mutual
theorem showy_sta : ∀ (d : Nat) (s : Sta), StaOk d s → ShowyP s.data (5 + 2 * d) (1000 * s.size - 2)
  | d, .act a, h => by
    have h : a.nm := by cases d <;> exact h
    exact (showy_act h).mono (by omega) (Nat.le_of_ble_eq_true rfl)
  | 0, .cond t y n, h => h.elim
  | d + 1, .cond t y n, h => by
    have h1 := showy_blk d y h.2.1
    have h2 := showy_blk d n h.2.2
    refine (ShowyS.cons (showy_kw "if" (by decide) (5 + 2 * d + 1)) (ShowyS.cons ((showy_tst' h.1).mono (by omega) (Nat.le_refl _)) (ShowyS.cons h1.tup (ShowyS.cons h2.tup .nil)))).tup.mono (by omega) ?_
    show 82 + 2 + (700 + 2 + (1000 * sizeB y + 4 + 2 + (1000 * sizeB n + 4 + 2 + 0))) + 4 ≤ 1000 * (1 + (sizeB y + sizeB n)) - 2
    omega
  | 0, .rep k b, h => h.elim
  | d + 1, .rep k b, h => by
    have h1 := showy_blk d b h.2
    refine (ShowyS.cons (showy_kw "repeat" (by decide) (5 + 2 * d + 1)) (ShowyS.cons (showy_int h.1 _) (ShowyS.cons h1.tup .nil))).tup.mono (by omega) ?_
    show 82 + 2 + (82 + 2 + (1000 * sizeB b + 4 + 2 + 0)) + 4 ≤ 1000 * (1 + sizeB b) - 2
    omega
theorem showy_blk : ∀ (d : Nat) (b : List Sta), (∀ s ∈ b, StaOk d s) → ShowyS (blkData b) (5 + 2 * d) (1000 * sizeB b)
  | d, [], h => .nil
  | d, s :: r, h => by
    have h1 := showy_sta d s (h s (List.mem_cons_self ..))
    have h2 := showy_blk d r fun z hz => h z (List.mem_cons_of_mem _ hz)
    have := sz1 s
    refine (ShowyS.cons h1 h2).mono (Nat.le_refl _) ?_
    show 1000 * s.size - 2 + 2 + 1000 * sizeB r ≤ 1000 * (s.size + sizeB r)
    omega
end
theorem ShowyS.lst {ds : List PyData} {p n : Nat} (a : ShowyS ds p n) : ShowyP (.list ds) (p + 1) (n + 4) :=
  ⟨a.s, a.h, a.o, Nat.add_le_add_right a.p 1, Nat.add_le_add_right a.b 4⟩
theorem showy_intG {i : Int} (h : i.natAbs.log2 < 1920) (p : Nat) : ShowyP (.int i) p 1921 := ⟨decide_eq_true h, rfl, trivial, Nat.zero_le _, int_text_len_1921 h⟩
theorem log_small {i : Int} {n : Nat} (h : i.natAbs ≤ n) (hn : n.log2 < 1920) : i.natAbs.log2 < 1920 := by
  by_cases z : i.natAbs = 0
  · rw [z]; decide
  · exact Nat.lt_of_le_of_lt ((Nat.le_log2 (by omega)).mpr (Nat.le_trans (Nat.log2_self_le z) h)) hn
theorem showy_bool (b : Bool) (p : Nat) : ShowyP (.bool b) p 5 := ⟨rfl, rfl, trivial, Nat.zero_le _, Nat.le_refl _⟩
theorem showy_none (p : Nat) : ShowyP .none p 4 := ⟨rfl, rfl, trivial, Nat.zero_le _, Nat.le_refl _⟩
/-! ### repr -/
def rRp (K : PySem.W.Frag) : List V → Hp → VK → Prop := fun vs H Q => ∃ (v : V) (d : PyData), vs = [v] ∧ Dp K H v d ∧ ShowyP d 100 16000000 ∧ Q (.str d.shown) H
theorem call_rpP {X : Cx} (hg : X.A.guards = some []) (hu : X.A.units + 101 < cLine) : CallR X (.builtin "repr") (rRp X.K) := by
  intro pins s σ H vs us Q I r h
  obtain ⟨v, d, ev, hd, ⟨h1, h2, h3, h4, h5⟩, q⟩ := h
  exact call_reprD hg hu pins s σ H vs us Q I r ⟨v, d, ev, hd, h1, h2, h4, Nat.le_trans (shown_le d h3) (Nat.le_trans h5 (by rw [sizeLine_eq]; decide)), q⟩
theorem sta_up : ∀ {d : Nat} {s : Sta}, StaOk d s → StaOk (d + 1) s
  | d, .act a, h => by
    have h : a.nm := by cases d <;> exact h
    exact h
  | 0, .cond t y n, h => h.elim
  | d + 1, .cond t y n, h => ⟨h.1, fun s hs => sta_up (h.2.1 s hs), fun s hs => sta_up (h.2.2 s hs)⟩
  | 0, .rep k b, h => h.elim
  | d + 1, .rep k b, h => ⟨h.1, fun s hs => sta_up (h.2 s hs)⟩
theorem sta_le {d e : Nat} {s : Sta} (h : StaOk d s) (l : d ≤ e) : StaOk e s := by
  obtain ⟨k, rfl⟩ := Nat.exists_eq_add_of_le l
  clear l
  induction k with
  | zero => exact h
  | succ k ih => exact sta_up ih
mutual
theorem staRows_ok : ∀ (d k : Nat) (s : Sta), StaOk d s → ∀ p ∈ staRows k s, StaOk d p.2 ∧ p.2.size ≤ s.size ∧ p.1 ≤ k + d
  | d, k, .act a, h, p, hp => by
    have hp : p ∈ [(k, Sta.act a)] := hp
    rw [List.mem_singleton.mp hp]
    exact ⟨h, Nat.le_refl _, by omega⟩
  | 0, k, .cond t y n, h, p, hp => h.elim
  | d + 1, k, .cond t y n, h, p, hp => by
    have hp : p ∈ (k, Sta.cond t y n) :: (rowsP (k + 1) y ++ rowsP (k + 1) n) := hp
    have e : (Sta.cond t y n).size = 1 + (sizeB y + sizeB n) := rfl
    rcases List.mem_cons.mp hp with rfl | hp
    · exact ⟨h, Nat.le_refl _, by omega⟩
    rcases List.mem_append.mp hp with hp | hp
    · obtain ⟨a, b, c⟩ := rowsP_ok d (k + 1) y h.2.1 p hp
      exact ⟨sta_up a, by omega, by omega⟩
    · obtain ⟨a, b, c⟩ := rowsP_ok d (k + 1) n h.2.2 p hp
      exact ⟨sta_up a, by omega, by omega⟩
  | 0, k, .rep c b, h, p, hp => h.elim
  | d + 1, k, .rep c b, h, p, hp => by
    have hp : p ∈ (k, Sta.rep c b) :: rowsP (k + 1) b := hp
    have e : (Sta.rep c b).size = 1 + sizeB b := rfl
    rcases List.mem_cons.mp hp with rfl | hp
    · exact ⟨h, Nat.le_refl _, by omega⟩
    · obtain ⟨a, b, c⟩ := rowsP_ok d (k + 1) b h.2 p hp
      exact ⟨sta_up a, by omega, by omega⟩
theorem rowsP_ok : ∀ (d k : Nat) (b : List Sta), (∀ s ∈ b, StaOk d s) → ∀ p ∈ rowsP k b, StaOk d p.2 ∧ p.2.size ≤ sizeB b ∧ p.1 ≤ k + d
  | d, k, [], h, p, hp => absurd hp List.not_mem_nil
  | d, k, s :: r, h, p, hp => by
    have hp : p ∈ staRows k s ++ rowsP k r := hp
    have e : sizeB (s :: r) = s.size + sizeB r := rfl
    rcases List.mem_append.mp hp with hp | hp
    · obtain ⟨a, b, c⟩ := staRows_ok d k s (h s List.mem_cons_self) p hp
      exact ⟨a, by omega, c⟩
    · obtain ⟨a, b, c⟩ := rowsP_ok d k r (fun z hz => h z (List.mem_cons_of_mem _ hz)) p hp
      exact ⟨a, by omega, c⟩
end
def RowsOk (l : List (Nat × Sta)) : Prop := ∀ p ∈ l, StaOk 5 p.2 ∧ p.2.size ≤ 100 ∧ p.1 ≤ 5
theorem rows_fine {b : List Sta} (h : ∀ s ∈ b, StaOk 5 s) (z : sizeB b ≤ 100) : RowsOk (rowsP 0 b) := fun p hp => by
  obtain ⟨a, b, c⟩ := rowsP_ok 5 0 b h p hp
  exact ⟨a, by omega, by omega⟩
theorem showy_nat {i : Nat} (h : i ≤ 1000) (p : Nat) : ShowyP (.int (i : Int)) p 1921 := showy_intG (log_small (n := 1000) (by omega) (by decide)) p
theorem showy_rows : ∀ (l : List (Nat × Sta)) (i : Nat), RowsOk l → i + l.length ≤ 1000 → ShowyS (rowsD i l) 20 (l.length * 110000)
  | [], i, h, z => .nil
  | p :: r, i, h, z => by
    obtain ⟨a, b, c⟩ := h p List.mem_cons_self
    have z : i + (r.length + 1) ≤ 1000 := z
    have ih := showy_rows r (i + 1) (fun q hq => h q (List.mem_cons_of_mem _ hq)) (by omega)
    have h1 := (showy_sta 5 p.2 a).mono (p' := 15) (n' := 100000) (by decide) (by omega)
    have h2 := (ShowyS.cons (showy_nat (i := i) (by omega) 15) (ShowyS.cons (showy_nat (i := p.1) (by omega) 15) (ShowyS.cons h1 .nil))).tup.mono (p' := 20) (n' := 109998) (by decide) (by decide)
    refine (ShowyS.cons h2 ih).mono (Nat.le_refl _) ?_
    show 109998 + 2 + r.length * 110000 ≤ (r.length + 1) * 110000
    omega
theorem places_in (w : Str) : ∀ (l : List (Nat × Sta)) (i : Nat), i + l.length ≤ 1000 → ShowyS ((placesW w i l).map .int) 0 (l.length * 1923)
  | [], i, h => .nil
  | p :: r, i, h => by
    have h : i + (r.length + 1) ≤ 1000 := h
    have ih := places_in w r (i + 1) (by omega)
    show ShowyS ((if headS p.2 = w then (i : Int) :: placesW w (i + 1) r else placesW w (i + 1) r).map .int) 0 ((r.length + 1) * 1923)
    split
    · refine (ShowyS.cons (showy_nat (i := i) (by omega) 0) ih).mono (Nat.le_refl _) ?_
      omega
    · exact ih.mono (Nat.le_refl _) (by omega)
theorem placesW_snoc (w : Str) : ∀ (l : List (Nat × Sta)) (i : Nat) (p : Nat × Sta), placesW w i (l ++ [p]) = placesW w i l ++ (if headS p.2 = w then [((i + l.length : Nat) : Int)] else [])
  | [], i, p => by
    show (if headS p.2 = w then (i : Int) :: [] else []) = _
    rfl
  | x :: r, i, p => by
    have ih := placesW_snoc w r (i + 1) p
    have e : i + (x :: r).length = i + 1 + r.length := by show i + (r.length + 1) = _; omega
    rw [e]
    show (if headS x.2 = w then (i : Int) :: placesW w (i + 1) (r ++ [p]) else placesW w (i + 1) (r ++ [p])) = (if headS x.2 = w then (i : Int) :: placesW w (i + 1) r else placesW w (i + 1) r) ++ _
    split
    · rw [ih]; rfl
    · exact ih
theorem placesW_take {w : Str} {l : List (Nat × Sta)} {i : Nat} {p : Nat × Sta} (h : l[i]? = some p) : placesW w 0 (l.take (i + 1)) = placesW w 0 (l.take i) ++ (if headS p.2 = w then [(i : Int)] else []) := by
  have lt := (List.getElem?_eq_some_iff.mp h).1
  rw [List.take_add_one, h]
  show placesW w 0 (l.take i ++ [p]) = _
  rw [placesW_snoc, List.length_take, Nat.zero_add, Nat.min_eq_left (Nat.le_of_lt lt)]
theorem placesW_len (w : Str) : ∀ (l : List (Nat × Sta)) (i : Nat), (placesW w i l).length ≤ l.length
  | [], i => Nat.le_refl _
  | p :: r, i => by
    have ih := placesW_len w r (i + 1)
    show (if headS p.2 = w then (i : Int) :: placesW w (i + 1) r else placesW w (i + 1) r).length ≤ r.length + 1
    split
    · exact Nat.succ_le_succ ih
    · exact Nat.le_succ_of_le ih
end G

set_option Elab.async false
set_option linter.all false
set_option maxRecDepth 100000
set_option maxHeartbeats 4000000
/-! The fixes' methods: places_of, changed. -/
namespace G
open PySem PySem.Spec PyProof.Rows L2
def chK : Sta → PyData
  | .act (.make x) => .tuple [(Act.make x).data, .tuple [.str "keep", .str x]]
  | s => .tuple [s.data]
def chS : Sta → PyData
  | .act (.weak x f y) => .tuple [.tuple [.str "hold", .str x, .str f, .str y]]
  | s => .tuple [s.data]
def chF (s : Sta) : PyData := .tuple [s.data]
theorem head_make {s : Sta} (h : headS s = "make") : ∃ x, s = .act (.make x) := by
  cases s with
  | act a => cases a <;> first | exact ⟨_, rfl⟩ | exact absurd h (by dsimp only [headS, headA]; decide +kernel)
  | cond t y n => exact absurd h (by show ¬ (Str.ofString "if" = Str.ofString "make"); decide +kernel)
  | rep k b => exact absurd h (by show ¬ (Str.ofString "repeat" = Str.ofString "make"); decide +kernel)
theorem head_weak {s : Sta} (h : headS s = "weak") : ∃ x f y, s = .act (.weak x f y) := by
  cases s with
  | act a => cases a <;> first | exact ⟨_, _, _, rfl⟩ | exact absurd h (by dsimp only [headS, headA]; decide +kernel)
  | cond t y n => exact absurd h (by show ¬ (Str.ofString "if" = Str.ofString "weak"); decide +kernel)
  | rep k b => exact absurd h (by show ¬ (Str.ofString "repeat" = Str.ofString "weak"); decide +kernel)
theorem chK_else {s : Sta} (h : headS s ≠ "make") : chK s = .tuple [s.data] := by
  cases s with
  | act a => cases a <;> first | rfl | exact absurd rfl h
  | cond t y n => rfl
  | rep k b => rfl
theorem chS_else {s : Sta} (h : headS s ≠ "weak") : chS s = .tuple [s.data] := by
  cases s with
  | act a => cases a <;> first | rfl | exact absurd rfl h
  | cond t y n => rfl
  | rep k b => rfl
theorem sIx1 (a : V) (ys : List V) : ¬ HT.sIx (a :: ys).length 0 (some 1) = 0 := by
  rw [show HT.sIx (a :: ys).length 0 (some 1) = min 1 (a :: ys).length from HT.sIx_nat _ 0 1, List.length_cons]
  omega
theorem cut1 (a : V) (ys : List V) : cutV (a :: ys) (some 1) none = ys := cut_drop (a :: ys) 1
/-! ### the readings -/
section
variable {K : PySem.W.Frag} {σ : L2.St} {H : Hp} {i : Nat} {v : V} {s : Sta}
/-- x[0] == w -/
theorem head_read {w : Str} {Q : Bool → Hp → Prop} (e : σ[i]? = some (some v)) (td : TD H v s.data) (q : Q (decide (headS s = w)) H) : tTest (tOp rEq (tOp (rIxT K) (tVar i) (tC (.int 0))) (tC (.str w))) σ H Q := by
  obtain ⟨ds, ed⟩ := sta_head s
  rw [ed] at td
  obtain ⟨r, xs, rfl, gr, e0⟩ := td_tup td
  obtain ⟨v1, xs, rfl, d1, e1⟩ := tds_cons e0
  cases d1
  refine ⟨_, e, r, _, _, _, rfl, rfl, SqT.of gr, atI_nat (j := 0) rfl, rfl, _, rfl, ?_⟩
  have ee : decide (V.str (headS s) = V.str w) = decide (headS s = w) := by
    by_cases c : headS s = w
    · rw [decide_eq_true c, decide_eq_true (by rw [c])]
    · rw [decide_eq_false c, decide_eq_false (fun z => c (by injection z))]
  rw [ee]
  exact q
theorem one_read {Q : VK} (e : σ[i]? = some (some v)) (td : TD H v s.data) (q : ∀ H' u, Same H H' → TD H' u (.tuple [s.data]) → Q u H') : tTup (tCons (tVar i) tNil) σ H Q :=
  ⟨_, e, line1000 (Nat.le_of_ble_eq_true rfl), fun p np => q _ _ (Same.up np) (.tup upd_same (.cons (TD.ch (Ch.same (S := []) (Same.up np)) _ _ td) .nil))⟩
theorem keep_read {x : Str} {Q : VK} (e : σ[i]? = some (some v)) (td : TD H v (Act.make x).data) (q : ∀ H' u, Same H H' → TD H' u (chK (.act (.make x))) → Q u H') :
    tTup (tCons (tVar i) (tCons (tTup (tCons (tC (.str "keep")) (tCons (tOp (rIxT K) (tVar i) (tC (.int 1))) tNil))) tNil)) σ H Q := by
  have td0 := td
  obtain ⟨r, xs, rfl, gr, e0⟩ := td_tup td
  obtain ⟨v1, xs, rfl, d1, e1⟩ := tds_cons e0
  obtain ⟨v2, xs, rfl, d2, e2⟩ := tds_cons e1
  cases d2
  cases e2
  refine ⟨_, e, _, e, r, _, _, _, rfl, rfl, SqT.of gr, atI_nat (j := 1) rfl, line1000 (Nat.le_of_ble_eq_true rfl), fun p np => ⟨line1000 (Nat.le_of_ble_eq_true rfl), fun p2 np2 => ?_⟩⟩
  have s1 := Same.up (o := HO.tup [V.str "keep", V.str x]) np
  have s2 := Same.up (o := HO.tup [V.ref r, V.ref p]) np2
  exact q _ _ (Same.trans s1 s2) (.tup upd_same (.cons (TD.ch (Ch.same (S := []) (Same.trans s1 s2)) _ _ td0) (.cons (.tup (s2 _ _ upd_same) (.cons (.str _) (.cons (.str _) .nil))) .nil)))
theorem strong_read {x f y : Str} {Q : VK} (e : σ[i]? = some (some v)) (td : TD H v (Act.weak x f y).data) (q : ∀ H' u, Same H H' → TD H' u (chS (.act (.weak x f y))) → Q u H') :
    tTup (tCons (tOp (rCatA K) (tTup (tCons (tC (.str "hold")) tNil)) (tSl (rSlA K) (tVar i) (tPart (tC (.int 1))) tNoPart)) tNil) σ H Q := by
  obtain ⟨r, xs, rfl, gr, e0⟩ := td_tup td
  obtain ⟨v1, xs, rfl, d1, e1⟩ := tds_cons e0
  refine ⟨line1000 (Nat.le_of_ble_eq_true rfl), fun p np => ?_⟩
  have s1 := Same.up (o := HO.tup [V.str "hold"]) np
  refine ⟨_, e, _, rfl, r, _, rfl, SqT.of (s1 _ _ gr), fun h => absurd h.1 (sIx1 _ _), fun _ p2 np2 => ?_⟩
  rw [cut1]
  have s2 := Same.up (o := HO.tup xs) np2
  have s12 := Same.trans s1 s2
  refine cat_td (.tup (s2 _ _ upd_same) (.cons (.str _) .nil)) (.tup upd_same (TDs.ch (Ch.same (S := []) s12) _ _ e1)) (Nat.le_of_ble_eq_true rfl) fun H' u s3 tdu => ⟨line1000 (Nat.le_of_ble_eq_true rfl), fun p3 np3 => ?_⟩
  have s4 := Same.up (o := HO.tup [u]) np3
  exact q _ _ (Same.trans s12 (Same.trans s3 s4)) (.tup upd_same (.cons (TD.ch (Ch.same (S := []) s4) _ _ tdu) .nil))
end
def spCh (mk : Sta → PyData) : Sp := fun vs H Q _ => ∃ (x v : V) (s : Sta), vs = [x, v] ∧ TD H v s.data ∧ ∀ H' u, Same H H' → TD H' u (mk s) → Q u H'
def spPO (wd : Str) : Sp := fun vs H Q E => ∃ x v, vs = [x, v] ∧ spPW [v, .str wd] H Q E
def spPO0 : Sp := fun vs H Q _ => ∃ x v, vs = [x, v] ∧ ∀ H' p, Same H H' → H' p = some (.tup []) → Q (.ref p) H'
section
variable {P : Program} {w : World} {K : PySem.W.Frag} {mg : Str → Option Value} {base : Heap}
abbrev s_chF : Stmt := inClass (top 20) 1
abbrev n_ch : List Str := ["self", "statement"]
theorem sc_chF : FnScope n_ch ["self", "statement"] (defScope s_chF) := ⟨rfl, rfl, rfl, by decide +kernel, rfl, by decide +kernel, by decide +kernel⟩
theorem ok_chF {f : Addr} {fd : FuncData} (F : Fun K "changed" "Fix.changed" s_chF f fd) : FnOk P w K mg base CX0 1 f fd ["self", "statement"] (spCh chF) := by
  refine F.ok sc_chF (fun vs H Q E ⟨x, v, s, ev, _⟩ => by rw [ev]; rfl) (fun cdv A outer s0 H vs Q E hr ⟨x, v, s, ev, td, q⟩ => ?_)
  subst ev
  exact ⟨_, (pss_one (ps_ret (pe_tup (pa_cons (pv 1) pa_nil)))), one_read rfl td q⟩
abbrev s_chK : Stmt := inClass (top 21) 1
theorem sc_chK : FnScope n_ch ["self", "statement"] (defScope s_chK) := ⟨rfl, rfl, rfl, by decide +kernel, rfl, by decide +kernel, by decide +kernel⟩
theorem ok_chK {f : Addr} {fd : FuncData} (F : Fun K "changed" "Keeps.changed" s_chK f fd) : FnOk P w K mg base CX0 1 f fd ["self", "statement"] (spCh chK) := by
  refine F.ok sc_chK (fun vs H Q E ⟨x, v, s, ev, _⟩ => by rw [ev]; rfl) (fun cdv A outer s0 H vs Q E hr ⟨x, v, s, ev, td, q⟩ => ?_)
  subst ev
  refine ⟨_, (pss_cons (ps_if (pt_cmpR op_eq (pe_ix ix_tup (pv 1) pe_int (fun _ _ => rfl)) pe_str (nomark _))
      (pss_one (ps_ret (pe_tup (pa_cons (pv 1) (pa_cons (pe_tup (pa_cons pe_str (pa_cons (pe_ix ix_tup (pv 1) pe_int (fun _ _ => rfl)) pa_nil))) pa_nil)))))
      pss_nil)
      (pss_one (ps_ret (pe_tup (pa_cons (pv 1) pa_nil))))), ?_⟩
  refine head_read (w := "make") rfl td (ite2 (fun h => ?_) (fun h => ?_))
  · obtain ⟨x, rfl⟩ := head_make (of_decide_eq_true h)
    exact keep_read rfl td q
  · have e := chK_else (of_decide_eq_false (by simpa using h))
    rw [e] at q
    exact one_read rfl td q
abbrev s_chS : Stmt := inClass (top 22) 1
theorem sc_chS : FnScope n_ch ["self", "statement"] (defScope s_chS) := ⟨rfl, rfl, rfl, by decide +kernel, rfl, by decide +kernel, by decide +kernel⟩
theorem ok_chS {f : Addr} {fd : FuncData} (F : Fun K "changed" "Strongs.changed" s_chS f fd) : FnOk P w K mg base CX0 1 f fd ["self", "statement"] (spCh chS) := by
  refine F.ok sc_chS (fun vs H Q E ⟨x, v, s, ev, _⟩ => by rw [ev]; rfl) (fun cdv A outer s0 H vs Q E hr ⟨x, v, s, ev, td, q⟩ => ?_)
  subst ev
  refine ⟨_, (pss_cons (ps_if (pt_cmpR op_eq (pe_ix ix_tup (pv 1) pe_int (fun _ _ => rfl)) pe_str (nomark _))
      (pss_one (ps_ret (pe_tup (pa_cons (pe_op op_catA (pe_tup (pa_cons pe_str pa_nil)) (pe_slice sl_tupA (pv 1) (po_some pe_int) po_none)) pa_nil))))
      pss_nil)
      (pss_one (ps_ret (pe_tup (pa_cons (pv 1) pa_nil))))), ?_⟩
  refine head_read (w := "weak") rfl td (ite2 (fun h => ?_) (fun h => ?_))
  · obtain ⟨x, f, y, rfl⟩ := head_weak (of_decide_eq_true h)
    exact strong_read rfl td q
  · have e := chS_else (of_decide_eq_false (by simpa using h))
    rw [e] at q
    exact one_read rfl td q
abbrev n_po : List Str := ["self", "program"]
abbrev s_poF : Stmt := inClass (top 20) 0
theorem sc_poF : FnScope n_po ["self", "program"] (defScope s_poF) := ⟨rfl, rfl, rfl, by decide +kernel, rfl, by decide +kernel, by decide +kernel⟩
theorem ok_poF {f : Addr} {fd : FuncData} (F : Fun K "places_of" "Fix.places_of" s_poF f fd) : FnOk P w K mg base CX0 1 f fd ["self", "program"] spPO0 := by
  refine F.ok sc_poF (fun vs H Q E ⟨x, v, ev, _⟩ => by rw [ev]; rfl) (fun cdv A outer s0 H vs Q E hr ⟨x, v, ev, q⟩ => ?_)
  subst ev
  exact ⟨_, (pss_one (ps_ret (pe_tup pa_nil))), Nat.zero_le _, fun p np => q _ p (Same.up np) upd_same⟩
abbrev s_poK : Stmt := inClass (top 21) 0
theorem sc_poK : FnScope n_po ["self", "program"] (defScope s_poK) := ⟨rfl, rfl, rfl, by decide +kernel, rfl, by decide +kernel, by decide +kernel⟩
theorem ok_poK {f fM : Addr} {fd dM : FuncData} (F : Fun K "places_of" "Keeps.places_of" s_poK f fd) (DM : Df K mg "make_places" s_make_places ["program"] fM dM) (GM : FnOk P w K mg base CX0 11 fM dM ["program"] (spPl "make")) : FnOk P w K mg base CX0 12 f fd ["self", "program"] (spPO "make") := by
  refine F.ok sc_poK (fun vs H Q E ⟨x, v, ev, _⟩ => by rw [ev]; rfl) (fun cdv A outer s0 H vs Q E hr ⟨x, v, ev, h⟩ => ?_)
  subst ev
  exact ⟨_, (pss_one (ps_ret (pe_call GM hr (by rfl) DM.m DM.F.kp DM.b .nil pass0 (pa_cons (pv 1) pa_nil)))), _, rfl, v, rfl, h⟩
abbrev s_poS : Stmt := inClass (top 22) 0
theorem sc_poS : FnScope n_po ["self", "program"] (defScope s_poS) := ⟨rfl, rfl, rfl, by decide +kernel, rfl, by decide +kernel, by decide +kernel⟩
theorem ok_poS {f fM : Addr} {fd dM : FuncData} (F : Fun K "places_of" "Strongs.places_of" s_poS f fd) (DM : Df K mg "weak_places" s_weak_places ["program"] fM dM) (GM : FnOk P w K mg base CX0 11 fM dM ["program"] (spPl "weak")) : FnOk P w K mg base CX0 12 f fd ["self", "program"] (spPO "weak") := by
  refine F.ok sc_poS (fun vs H Q E ⟨x, v, ev, _⟩ => by rw [ev]; rfl) (fun cdv A outer s0 H vs Q E hr ⟨x, v, ev, h⟩ => ?_)
  subst ev
  exact ⟨_, (pss_one (ps_ret (pe_call GM hr (by rfl) DM.m DM.F.kp DM.b .nil pass0 (pa_cons (pv 1) pa_nil)))), _, rfl, v, rfl, h⟩
end
end G

set_option Elab.async false
set_option linter.all false
set_option maxRecDepth 100000
set_option maxHeartbeats 8000000
/-! k78: the law. -/
namespace G
open PySem PySem.Spec PyProof.Rows L2
theorem inst_same {H : Hp} {x dx C : Addr} (n1 : H x = none) (n2 : H dx = none) (ne : dx ≠ x) : Same H (upd (upd H dx (.own x)) x (.ins C dx [])) :=
  Same.trans (Same.up n2) (Same.up (by rw [upd_ne (Ne.symm ne)]; exact n1))
def twKept (i : Nat) : TE := fun σ H Q => ∃ (v : V) (s : Sta), σ[i]? = some (some v) ∧ TD H v s.data ∧ ∀ H' u, Same H H' → TD H' u (chK s) → Q u H'
def twStrong (i : Nat) : TE := fun σ H Q => ∃ (v : V) (s : Sta), σ[i]? = some (some v) ∧ TD H v s.data ∧ ∀ H' u, Same H H' → TD H' u (chS s) → Q u H'
theorem showy_chK {s : Sta} (h : StaOk 5 s) (z : s.size ≤ 100) : ShowyP (chK s) 20 110000 := by
  by_cases c : headS s = "make"
  · obtain ⟨x, rfl⟩ := head_make c
    have h : Nm x := h
    exact (ShowyS.cons ((showy_act (a := .make x) h).mono (Nat.le_of_ble_eq_true rfl : 5 ≤ 19) (Nat.le_refl _)) (ShowyS.cons ((ShowyS.cons (showy_kw "keep" (by decide) 0) (ShowyS.cons (showy_nm h 0) .nil)).tup.mono (by decide) (Nat.le_refl _)) .nil)).tup.mono (by decide) (by decide)
  · rw [chK_else c]
    exact (ShowyS.cons ((showy_sta 5 s h).mono (by decide : 15 ≤ 19) (by omega : _ ≤ 100000)) .nil).tup.mono (by decide) (by decide)
theorem showy_chS {s : Sta} (h : StaOk 5 s) (z : s.size ≤ 100) : ShowyP (chS s) 20 110000 := by
  by_cases c : headS s = "weak"
  · obtain ⟨x, f, y, rfl⟩ := head_weak c
    have h : Nm x ∧ Nm f ∧ Nm y := h
    exact (ShowyS.cons ((ShowyS.cons (showy_kw "hold" (by decide) 0) (ShowyS.cons (showy_nm h.1 0) (ShowyS.cons (showy_nm h.2.1 0) (ShowyS.cons (showy_nm h.2.2 0) .nil)))).tup) .nil).tup.mono (by decide) (by decide)
  · rw [chS_else c]
    exact (ShowyS.cons ((showy_sta 5 s h).mono (by decide : 15 ≤ 19) (by omega : _ ≤ 100000)) .nil).tup.mono (by decide) (by decide)
theorem showy_chF {s : Sta} (h : StaOk 5 s) (z : s.size ≤ 100) : ShowyP (chF s) 20 110000 :=
  (ShowyS.cons ((showy_sta 5 s h).mono (by decide : 15 ≤ 19) (by omega : _ ≤ 100000)) .nil).tup.mono (by decide) (by decide)
def d3 (s : Sta) : PyData := .tuple [chK s, chS s, chF s]
theorem showy_d3 {s : Sta} (h : StaOk 5 s) (z : s.size ≤ 100) : ShowyP (d3 s) 100 16000000 :=
  (ShowyS.cons (showy_chK h z) (ShowyS.cons (showy_chS h z) (ShowyS.cons (showy_chF h z) .nil))).tup.mono (by decide) (by decide)
def dPl (b : List Sta) : PyData := .tuple [.tuple ((placesW "make" 0 (rowsP 0 b)).map .int), .tuple ((placesW "weak" 0 (rowsP 0 b)).map .int), .tuple []]
theorem showy_dPl {b : List Sta} (z : sizeB b ≤ 100) : ShowyP (dPl b) 100 16000000 := by
  have l := rowsP_len 0 b
  have a1 := places_in "make" (rowsP 0 b) 0 (by omega)
  have a2 := places_in "weak" (rowsP 0 b) 0 (by omega)
  refine (ShowyS.cons (a1.tup.mono (Nat.le_refl 1) (by omega : _ ≤ 200000)) (ShowyS.cons (a2.tup.mono (Nat.le_refl 1) (by omega : _ ≤ 200000)) (ShowyS.cons ((ShowyS.nil (p := 0)).tup) .nil))).tup.mono (by decide) (by decide)
/-- the places of the statements of a kind, as the law counts them -/
theorem lc_places {K : PySem.W.Frag} {σ : L2.St} {R U : Addr} {rs : List V} {lp : List (Nat × Sta)} {H1 : Hp} {Qd : Hp → Prop} (w : Str) (gR : H1 R = some (.lst rs)) (td : TDs H1 rs (lp.map sndD)) (nU : H1 U = none)
    (e1 : ∀ x, wipe ((wipe σ [12]).set 12 (some x)) [12] = wipe σ [12]) (e2 : ∀ x, ((wipe σ [12]).set 12 (some x))[5]? = some (some (.ref R))) (e3 : ∀ x, ((wipe σ [12]).set 12 (some x))[12]? = some (some x)) (hl : rs.length ≤ 1000)
    (q : ∀ H', Same H1 H' → H' U = some (.lst ((placesW w 0 lp).map V.int)) → Qd H') :
    ∃ W : Nat → Nat → Hp → Prop, (∃ m, W 0 m (upd H1 U (.lst []))) ∧ ∀ i m H, W i m H →
      ((Itr 0 (((rs.length : Nat) : Int).toNat)).stop i H ∧ Qd H) ∨ ((Itr 0 (((rs.length : Nat) : Int).toNat)).go i H ∧ ∃ Nx : Hp → Prop, (∀ H', Nx H' → ∃ m', m' < m ∧ W (i + 1) m' H') ∧ ∀ x H', (Itr 0 (((rs.length : Nat) : Int).toNat)).yld i H x H' → gName 12 x (wipe σ [12]) H' fun σ2 H2 => wipe σ2 [12] = wipe σ [12] ∧ tTest (tOp rEq (tOp (rIxT K) (tOp (rIxL K) (tVar 5) (tVar 12)) (tC (.int 0))) (tC (.str w))) σ2 H2 fun b H3 =>
        if b = true then tVar 12 σ2 H3 fun y H4 => ∃ acc, H4 U = some (.lst acc) ∧ acc.length < sizeLine ∧ Nx (upd H4 U (.lst (acc ++ [y]))) else Nx H3) := by
  have lr : rs.length = lp.length := by rw [td.len, List.length_map]
  have neU : R ≠ U := fun z => by rw [z, nU] at gR; cases gR
  refine lc_range (lo := 0) (n := ((rs.length : Nat) : Int).toNat) (fun i H' => Ch [U] H1 H' ∧ H' U = some (.lst ((placesW w 0 (lp.take i)).map V.int))) ⟨(Ch.refl _ _).new nU, upd_same⟩ ?_ ?_
  · rintro i H' hi ⟨ch, gU⟩
    have hi : i < rs.length := by omega
    obtain ⟨dt, edt, tdv⟩ := (TDs.ch ch _ _ td).at (List.getElem?_eq_getElem hi)
    rw [List.getElem?_map] at edt
    obtain ⟨pr, hpr, rfl⟩ := Option.map_eq_some_iff.mp edt
    have tdv : TD H' rs[i] pr.2.data := tdv
    obtain ⟨ds, ed⟩ := sta_head pr.2
    rw [ed] at tdv
    obtain ⟨r, xs, er, gr, e0⟩ := td_tup tdv
    obtain ⟨v1, xs, rfl, d1, _⟩ := tds_cons e0
    cases d1
    have gR' := ch.kp _ _ (by simpa using neU) gR
    have eat : atI rs (0 + (i : Int)) = some (.ref r) := by
      rw [show (0 : Int) + (i : Int) = (i : Int) by omega]
      exact atI_nat (by rw [List.getElem?_eq_getElem hi, er])
    refine ⟨e1 _, _, e2 _, _, e3 _, R, _, _, _, rfl, rfl, SqL.of gR', eat, r, _, _, _, rfl, rfl, SqT.of gr, atI_nat (j := 0) rfl, rfl, _, rfl, ?_⟩
    have tk := placesW_take (w := w) hpr
    by_cases c : headS pr.2 = w
    · rw [show decide (V.str (headS pr.2) = V.str w) = true from decide_eq_true (by rw [c])]
      rw [if_pos c] at tk
      have la := placesW_len w (lp.take i) 0
      rw [List.length_take] at la
      refine iteT ⟨_, e3 _, _, gU, by rw [List.length_map]; exact small1000 (by omega), ch.put (by simp) gU (fun xs z => by cases z), ?_⟩
      rw [upd_same, tk, List.map_append, show (0 : Int) + (i : Int) = (i : Int) by omega]
      rfl
    · rw [show decide (V.str (headS pr.2) = V.str w) = false from decide_eq_false (fun z => c (by injection z))]
      rw [if_neg c, List.append_nil] at tk
      exact iteF ⟨ch, by rw [tk]; exact gU⟩
  · rintro H' ⟨ch, gU⟩
    have e : ((rs.length : Nat) : Int).toNat = lp.length := by omega
    rw [e, List.take_length] at gU
    exact q H' (ch.kp.fresh nU).toSame gU
/-- a class of fixes -/
structure FixC (P : Program) (w : World) (K : PySem.W.Frag) (mg : Str → Option Value) (base : Heap) (x : Str) (C : Addr) (mk : Sta → PyData) (sp : Sp) : Prop where
  m : mg x = some (.ref C)
  mk0 : Mk0 K C
  cl : Cls K C
  ch : ∃ f fd, Meth K C "changed" f ∧ FnOk P w K mg base CX0 1 f fd ["self", "statement"] (spCh mk) ∧ Binds K fd ["self", "statement"] []
  po : ∃ f fd k, k ≤ 12 ∧ Meth K C "places_of" f ∧ FnOk P w K mg base CX0 k f fd ["self", "program"] sp ∧ Binds K fd ["self", "program"] []
end G

set_option Elab.async false
set_option linter.all false
set_option maxRecDepth 100000
set_option maxHeartbeats 4000000
/-! Placed rows of a block; placed_block, size_of. -/
namespace G
open PySem PySem.Spec PyProof.Rows L2 StX
def sizeBs : List (List Sta) → Nat
  | [] => 0
  | b :: r => sizeB b + sizeBs r
theorem size_blocks (s : Sta) : s.size = 1 + sizeBs (partsOf s) := by
  cases s <;> simp [Sta.size, partsOf, sizeBs]
abbrev RowP := Hp → (Addr → Prop) → Addr → List Sta → Int → Prop
def BlksV (P : RowP) (H : Hp) (G : Addr → Prop) : List V → List (List Sta) → Int → Prop
  | [], [], _ => True
  | v :: vs, b :: bs, pl => (∃ R, v = .ref R ∧ P H G R b pl) ∧ BlksV P H G vs bs (pl + (sizeB b : Nat))
  | _, _, _ => False
def RowV (P : RowP) (H : Hp) (G : Addr → Prop) (v : V) (s : Sta) (pl : Int) : Prop :=
  ∃ t sv q ys, v = .ref t ∧ H t = some (.tup [.int pl, sv, .ref q]) ∧ TD H sv s.data ∧ G q ∧ H q = some (.lst ys) ∧ BlksV P H G ys (partsOf s) (pl + 1)
def RowsV (P : RowP) (H : Hp) (G : Addr → Prop) : List V → List Sta → Int → Prop
  | [], [], _ => True
  | v :: vs, s :: r, pl => RowV P H G v s pl ∧ RowsV P H G vs r (pl + (s.size : Nat))
  | _, _, _ => False
def RowsAt : Nat → RowP
  | 0 => fun H G R b _ => b = [] ∧ G R ∧ H R = some (.lst [])
  | d + 1 => fun H G R b pl => G R ∧ ∃ xs, H R = some (.lst xs) ∧ RowsV (RowsAt d) H G xs b pl
/-- kept under changes elsewhere -/
def RCh (P : RowP) : Prop := ∀ (S : List Addr) (H H' : Hp) (G G' : Addr → Prop) (R : Addr) (b : List Sta) (pl : Int), Ch S H H' → (∀ a, G a → (∃ o, H a = some o) → a ∉ S ∧ G' a) → P H G R b pl → P H' G' R b pl
theorem BlksV.ch {P : RowP} (hP : RCh P) {S : List Addr} {H H' : Hp} {G G' : Addr → Prop} (c : Ch S H H') (hG : ∀ a, G a → (∃ o, H a = some o) → a ∉ S ∧ G' a) : ∀ (vs : List V) (bs : List (List Sta)) (pl : Int), BlksV P H G vs bs pl → BlksV P H' G' vs bs pl
  | [], [], _, _ => trivial
  | v :: vs, b :: bs, pl, h => ⟨let ⟨R, e, h1⟩ := h.1; ⟨R, e, hP _ _ _ _ _ _ _ _ c hG h1⟩, BlksV.ch hP c hG vs bs _ h.2⟩
  | [], _ :: _, _, h => h.elim
  | _ :: _, [], _, h => h.elim
theorem RowV.ch {P : RowP} (hP : RCh P) {S : List Addr} {H H' : Hp} {G G' : Addr → Prop} (c : Ch S H H') (hG : ∀ a, G a → (∃ o, H a = some o) → a ∉ S ∧ G' a) {v : V} {s : Sta} {pl : Int} (h : RowV P H G v s pl) : RowV P H' G' v s pl := by
  obtain ⟨t, sv, q, ys, e, h1, h2, h3, h4, h5⟩ := h
  obtain ⟨n, g⟩ := hG q h3 ⟨_, h4⟩
  exact ⟨t, sv, q, ys, e, c.tu _ _ h1, TD.ch c _ _ h2, g, c.kp _ _ n h4, BlksV.ch hP c hG _ _ _ h5⟩
theorem RowsV.ch {P : RowP} (hP : RCh P) {S : List Addr} {H H' : Hp} {G G' : Addr → Prop} (c : Ch S H H') (hG : ∀ a, G a → (∃ o, H a = some o) → a ∉ S ∧ G' a) : ∀ (vs : List V) (b : List Sta) (pl : Int), RowsV P H G vs b pl → RowsV P H' G' vs b pl
  | [], [], _, _ => trivial
  | v :: vs, s :: r, pl, h => ⟨RowV.ch hP c hG h.1, RowsV.ch hP c hG vs r _ h.2⟩
  | [], _ :: _, _, h => h.elim
  | _ :: _, [], _, h => h.elim
theorem RowsAt.ch : ∀ d, RCh (RowsAt d)
  | 0 => fun S H H' G G' R b pl c hG ⟨e, g, h⟩ => let ⟨n, g'⟩ := hG R g ⟨_, h⟩; ⟨e, g', c.kp _ _ n h⟩
  | d + 1 => fun S H H' G G' R b pl c hG ⟨g, xs, h, hv⟩ => let ⟨n, g'⟩ := hG R g ⟨_, h⟩; ⟨g', xs, c.kp _ _ n h, RowsV.ch (RowsAt.ch d) c hG _ _ _ hv⟩
theorem RowsV.len {P : RowP} {H : Hp} {G : Addr → Prop} : ∀ {vs : List V} {b : List Sta} {pl : Int}, RowsV P H G vs b pl → vs.length = b.length
  | [], [], _, _ => rfl
  | _ :: _, _ :: _, _, h => congrArg (· + 1) (RowsV.len h.2)
  | [], _ :: _, _, h => h.elim
  | _ :: _, [], _, h => h.elim
def sizeL (b : List Sta) : Nat := sizeB b
theorem sizeB_append : ∀ (a b : List Sta), sizeB (a ++ b) = sizeB a + sizeB b
  | [], b => by simp [sizeB]
  | s :: r, b => by
    show s.size + sizeB (r ++ b) = (s.size + sizeB r) + sizeB b
    rw [sizeB_append r b]
    omega
theorem sizeB_one (s : Sta) : sizeB [s] = s.size := rfl
theorem RowsV.snoc {P : RowP} {H : Hp} {G : Addr → Prop} {v : V} {s : Sta} : ∀ {vs : List V} {b : List Sta} {pl : Int}, RowsV P H G vs b pl → RowV P H G v s (pl + (sizeB b : Nat)) → RowsV P H G (vs ++ [v]) (b ++ [s]) pl
  | [], [], pl, _, h => ⟨by simpa [sizeB] using h, trivial⟩
  | _ :: _, t :: r, pl, h, h2 => ⟨h.1, RowsV.snoc h.2 (by
      have e : pl + (t.size : Nat) + (sizeB r : Nat) = pl + (sizeB (t :: r) : Nat) := by
        show pl + (t.size : Nat) + (sizeB r : Nat) = pl + ((t.size + sizeB r : Nat) : Int)
        omega
      rw [e]
      exact h2)⟩
  | [], _ :: _, _, h, _ => h.elim
  | _ :: _, [], _, h, _ => h.elim
theorem sizeBs_append : ∀ (a b : List (List Sta)), sizeBs (a ++ b) = sizeBs a + sizeBs b
  | [], b => by simp [sizeBs]
  | s :: r, b => by
    show sizeB s + sizeBs (r ++ b) = (sizeB s + sizeBs r) + sizeBs b
    rw [sizeBs_append r b]
    omega
theorem BlksV.snoc {P : RowP} {H : Hp} {G : Addr → Prop} {R : Addr} {c : List Sta} : ∀ {vs : List V} {b : List (List Sta)} {pl : Int}, BlksV P H G vs b pl → P H G R c (pl + (sizeBs b : Nat)) → BlksV P H G (vs ++ [.ref R]) (b ++ [c]) pl
  | [], [], pl, _, h => ⟨⟨R, rfl, by simpa [sizeBs] using h⟩, trivial⟩
  | _ :: _, t :: r, pl, h, h2 => ⟨h.1, BlksV.snoc h.2 (by
      have e : pl + (sizeB t : Nat) + (sizeBs r : Nat) = pl + (sizeBs (t :: r) : Nat) := by
        show pl + (sizeB t : Nat) + (sizeBs r : Nat) = pl + ((sizeB t + sizeBs r : Nat) : Int)
        omega
      rw [e]
      exact h2)⟩
  | [], _ :: _, _, h, _ => h.elim
  | _ :: _, [], _, h, _ => h.elim
theorem BlksV.len {P : RowP} {H : Hp} {G : Addr → Prop} : ∀ {vs : List V} {b : List (List Sta)} {pl : Int}, BlksV P H G vs b pl → vs.length = b.length
  | [], [], _, _ => rfl
  | _ :: _, _ :: _, _, h => congrArg (· + 1) (BlksV.len h.2)
  | [], _ :: _, _, h => h.elim
  | _ :: _, [], _, h => h.elim
theorem Ch.toSame {S : List Addr} {H H' : Hp} (c : Ch S H H') (h : ∀ a ∈ S, H a = none) : Same H H' := fun b o e => c.kp b o (fun z => by rw [h b z] at e; cases e) e
theorem take_snoc {α : Type} {l : List α} {i : Nat} {x : α} (h : l[i]? = some x) : l.take (i + 1) = l.take i ++ [x] := by
  rw [List.take_add_one, h]
  rfl
theorem len_size : ∀ b : List Sta, b.length ≤ sizeB b
  | [] => Nat.zero_le _
  | s :: r => by
    show r.length + 1 ≤ s.size + sizeB r
    have := size_pos s
    have := len_size r
    omega
theorem sizes_take (b : List (List Sta)) (i : Nat) : sizeBs (b.take i) ≤ sizeBs b := by
  have h : sizeBs b = sizeBs (b.take i) + sizeBs (b.drop i) := by rw [← sizeBs_append, List.take_append_drop]
  omega
theorem nest_up : ∀ {d : Nat} {s : Sta}, NestOk d s → NestOk (d + 1) s
  | _, .act _, _ => by unfold NestOk; trivial
  | 0, .cond _ _ _, h => h.elim
  | 0, .rep _ _, h => h.elim
  | d + 1, .cond t y n, h => by
    have h : (∀ s ∈ y, NestOk d s) ∧ ∀ s ∈ n, NestOk d s := h
    exact ⟨fun s hs => nest_up (h.1 s hs), fun s hs => nest_up (h.2 s hs)⟩
  | d + 1, .rep k b, h => by
    have h : ∀ s ∈ b, NestOk d s := h
    exact fun s hs => nest_up (h s hs)
theorem nest_le {d e : Nat} {s : Sta} (h : NestOk d s) (l : d ≤ e) : NestOk e s := by
  induction e with
  | zero => rwa [Nat.le_zero.mp l] at h
  | succ e ih =>
    rcases Nat.lt_or_ge d (e + 1) with c | c
    · exact nest_up (ih (by omega))
    · have : d = e + 1 := by omega
      rwa [this] at h
section
variable {P : Program} {w : World} {K : PySem.W.Frag} {mg : Str → Option Value} {base : Heap}
abbrev s_size : Stmt := top 11
abbrev n_size : List Str := ["block"]
theorem sc_size : FnScope n_size ["block"] (defScope s_size) := ⟨rfl, rfl, rfl, by decide +kernel, rfl, by decide +kernel, by decide +kernel⟩
def spSize : Sp := fun vs H Q _ => ∃ (bv : V) (b : List Sta), vs = [bv] ∧ TD H bv (partD b) ∧ (∀ s ∈ b, NestOk 5 s) ∧ sizeB b ≤ 10000 ∧ ∀ H', Same H H' → Q (.int (sizeB b : Nat)) H'
theorem ok_size {f fR : Addr} {fd dR : FuncData} (F : Fun K "size_of" "size_of" s_size f fd) (z_len : mg "len" = none) (DR : Df K mg "rows_of" s_rows_of ["block", "depth"] fR dR) (GR : FnOk P w K mg base CX0 7 fR dR ["block", "depth"] (spRO 5)) : FnOk P w K mg base CX0 8 f fd ["block"] spSize := by
  refine F.ok sc_size (fun vs H Q E ⟨bv, b, ev, _⟩ => by rw [ev]; rfl) (fun cdv A outer s H vs Q E hr ⟨bv, b, ev, td, hd, hz, q⟩ => ?_)
  subst ev
  refine ⟨_, (pss_one (ps_ret (pe_callB call_len_seq (by rfl) z_len (by decide +kernel) (pa_cons (pe_call GR hr (by rfl) DR.m DR.F.kp DR.b .nil pass0 (pa_cons (pv 0) (pa_cons pe_int pa_nil))) pa_nil)))), ?_⟩
  refine ⟨bv, rfl, bv, b, 0, rfl, td, hd, hz, fun H9 L ws s9 nL gL tdw => ?_⟩
  refine ⟨L, ws, rfl, .inl (SqL.of gL), ?_⟩
  rw [tdw.len, List.length_map, rowsP_len]
  exact q _ s9
abbrev s_placed : Stmt := top 10
abbrev n_placed : List Str := ["block", "first", "rows", "place", "statement", "behind", "placed", "inner"]
theorem sc_placed : FnScope n_placed ["block", "first"] (defScope s_placed) := ⟨rfl, rfl, rfl, by decide +kernel, rfl, by decide +kernel, by decide +kernel⟩
/-- rows of statements so deep -/
def spPB (d : Nat) : Sp := fun vs H Q _ => ∃ (bv : V) (pl : Int) (b : List Sta), vs = [bv, .int pl] ∧ TD H bv (partD b) ∧ (∀ s ∈ b, NestOk d s) ∧ sizeB b ≤ 1000 ∧ ∀ H' R, Same H H' → RowsAt (d + 1) H' (fun a => H a = none) R b pl → Q (.ref R) H'
def spPB' : Nat → Sp
  | 0 => fun _ _ _ _ => False
  | d + 1 => spPB d
theorem ok_placed {f fS fB fZ : Addr} {fd dS dB dZ : FuncData} {d k0 : Nat} (hd5 : d ≤ 5) (hk0 : 8 ≤ k0) (F : Fun K "placed_block" "placed_block" s_placed f fd)
    (DB : Df K mg "blocks_of" s_blocks_of ["statement"] fB dB) (GB : FnOk P w K mg base CX0 1 fB dB ["statement"] spBO)
    (DZ : Df K mg "size_of" s_size ["block"] fZ dZ) (GZ : FnOk P w K mg base CX0 8 fZ dZ ["block"] spSize)
    (mS : mg "placed_block" = some (.ref fS)) (kS : PySem.W.keepIn K (.ref fS) = true) (bS : Binds K dS ["block", "first"] []) (GS : FnOk P w K mg base CX0 k0 fS dS ["block", "first"] (spPB' d)) : FnOk P w K mg base CX0 (k0 + 1) f fd ["block", "first"] (spPB d) := by
  refine F.ok sc_placed (fun vs H Q E ⟨bv, dp, b, ev, _⟩ => by rw [ev]; rfl) (fun cdv A outer s H vs Q E hr ⟨bv, pl, b, ev, td, hd, hz, q⟩ => ?_)
  subst ev
  have hr1 : Room 1 _ := hr.mono (by omega)
  have hr8 : Room 8 _ := hr.mono (by omega)
  refine ⟨_, (pss_cons (ps_set (i := 2) sc_placed.nd rfl (.inl rfl) (pe_lst pa_nil))
      (pss_cons (ps_set (i := 3) sc_placed.nd rfl (.inl rfl) (pv 1))
      (pss_cons (ps_for PassesOwn.never rfl (pi_tup (pv 0)) (pg_name (i := 4) sc_placed.nd rfl (.inl rfl))
        (pss_cons (ps_set (i := 5) sc_placed.nd rfl (.inl rfl) (pe_op op_add (pv 3) pe_int))
        (pss_cons (ps_set (i := 6) sc_placed.nd rfl (.inl rfl) (pe_lst pa_nil))
        (pss_cons (ps_for PassesOwn.never rfl (pi_tup (pe_call GB hr1 (by rfl) DB.m DB.F.kp DB.b .nil pass0 (pa_cons (pv 4) pa_nil))) (pg_name (i := 7) sc_placed.nd rfl (.inl rfl))
          (pss_cons (ps_expr (pe_bm PySem.F.plainAttrs_list PySem.F.slot_list_append PySem.F.type_list_append mt_append (pv 6) (pa_cons (pe_call GS hr (by rfl) mS kS bS .nil pass0 (pa_cons (pv 7) (pa_cons (pv 5) pa_nil))) pa_nil)))
          (pss_one (ps_set (i := 5) sc_placed.nd rfl (.inl rfl) (pe_op op_add (pv 5) (pe_call GZ hr8 (by rfl) DZ.m DZ.F.kp DZ.b .nil pass0 (pa_cons (pv 7) pa_nil)))))))
        (pss_cons (ps_expr (pe_bm PySem.F.plainAttrs_list PySem.F.slot_list_append PySem.F.type_list_append mt_append (pv 2) (pa_cons (pe_tup (pa_cons (pv 3) (pa_cons (pv 4) (pa_cons (pv 6) pa_nil)))) pa_nil)))
        (pss_one (ps_set (i := 3) sc_placed.nd rfl (.inl rfl) (pv 5))))))))
      (pss_one (ps_ret (pv 2)))))), ?_⟩
  obtain ⟨a, bs, rfl, ha, ds⟩ := td_tup td
  rw [blkData_eq] at ds
  have lb : bs.length = b.length := by rw [ds.len, List.length_map]
  refine ⟨Nat.zero_le _, fun R nR => ?_⟩
  have s1 := Same.up (o := HO.lst []) nR
  have g1 : upd H R (HO.lst []) R = some (.lst []) := upd_same
  generalize upd H R (HO.lst []) = H1 at s1 g1 ⊢
  refine ⟨_, rfl, _, rfl, a, rfl, ⟨_, SqT.of (s1 _ _ ha)⟩, for_tup (xs := bs) (fun i σ H' => Same H H' ∧ (∃ xs, H' R = some (.lst xs) ∧ RowsV (RowsAt d) H' (fun a => H a = none ∧ a ≠ R) xs (b.take i) pl) ∧ ∃ x4 x5 x6 x7, σ = [some (.ref a), some (.int pl), some (.ref R), some (.int (pl + (sizeB (b.take i) : Nat))), x4, x5, x6, x7])
    ⟨s1, ⟨_, g1, trivial⟩, none, none, none, none, ?_⟩ (fun i σ H' _ h => SqT.of (h.1 _ _ ha)) ?_ ?_⟩
  · show _ = [some (V.ref a), some (V.int pl), some (V.ref R), some (V.int (pl + ((0 : Nat) : Int))), none, none, none, none]
    rw [show pl + ((0 : Nat) : Int) = pl by omega]
    rfl
  · rintro i x σ H2 hx ⟨s2, ⟨xs, gR, hrows⟩, x4, x5, x6, x7, rfl⟩
    obtain ⟨dt, e1, tdx⟩ := ds.at hx
    rw [List.getElem?_map] at e1
    obtain ⟨st, hst, rfl⟩ := Option.map_eq_some_iff.mp e1
    have hmem : st ∈ b := List.mem_of_getElem? hst
    have ex := take_snoc hst
    have hz1 : sizeB (b.take i) + st.size ≤ 1000 := by
      have z := size_take b (i + 1)
      rw [ex, sizeB_append, sizeB_one] at z
      omega
    have hsz := size_blocks st
    have hxl := hrows.len
    have hxl2 := len_size (b.take i)
    generalize epc : pl + (sizeB (b.take i) : Nat) = pc
    refine ⟨.int pc, rfl, pc, 1, rfl, rfl, Nat.zero_le _, fun q0 nq => ?_⟩
    have nqH : H q0 = none := by
      cases e : H q0 with
      | none => rfl
      | some o => rw [s2 _ _ e] at nq; cases nq
    have neqR : q0 ≠ R := fun z => by rw [z, gR] at nq; cases nq
    have s3 : Same H2 (upd H2 q0 (HO.lst [])) := Same.up nq
    have g3 : upd H2 q0 (HO.lst []) q0 = some (.lst []) := upd_same
    generalize upd H2 q0 (HO.lst []) = H3 at s3 g3 ⊢
    have rows3 : RowsV (RowsAt d) H3 (fun a => H a = none ∧ a ≠ R ∧ a ≠ q0) xs (b.take i) pl :=
      RowsV.ch (RowsAt.ch d) (Ch.same (S := []) s3) (fun c g ho => ⟨List.not_mem_nil, g.1, g.2, fun z => by obtain ⟨o, e⟩ := ho; rw [z, nq] at e; cases e⟩) _ _ _ hrows
    have s03 : Same H H3 := Same.trans s2 s3
    refine ⟨x, rfl, x, st, rfl, TD.ch (Ch.same (S := []) s03) _ _ tdx, fun H5 tb ys s5 g5 tds5 => ?_⟩
    have lys : ys.length = (partsOf st).length := by rw [tds5.len]; exact List.length_map ..
    refine ⟨tb, rfl, ⟨_, SqT.of g5⟩, for_tup (xs := ys) (fun j σ H' => Ch [q0] H5 H' ∧ (∃ zs, H' q0 = some (.lst zs) ∧ BlksV (RowsAt d) H' (fun a => H a = none ∧ a ≠ R ∧ a ≠ q0) zs ((partsOf st).take j) (pc + 1)) ∧
        ∃ x7, σ = [some (.ref a), some (.int pl), some (.ref R), some (.int pc), some x, some (.int (pc + 1 + (sizeBs ((partsOf st).take j) : Nat))), some (.ref q0), x7])
      ⟨Ch.refl _ _, ⟨_, s5 _ _ g3, trivial⟩, x7, ?_⟩ (fun j σ H' _ h => SqT.of (h.1.tu _ _ g5)) ?_ ?_⟩
    · show _ = [some (V.ref a), some (V.int pl), some (V.ref R), some (V.int pc), some x, some (V.int (pc + 1 + ((0 : Nat) : Int))), some (V.ref q0), x7]
      rw [show pc + 1 + ((0 : Nat) : Int) = pc + 1 by omega]
      rfl
    · rintro j y σ H6 hy ⟨c6, ⟨zs, gz, hbl6⟩, x7, rfl⟩
      obtain ⟨dt, e1, tdy⟩ := tds5.at hy
      have e1 : ((partsOf st).map partD)[j]? = some dt := e1
      rw [List.getElem?_map] at e1
      obtain ⟨bl, hbl, rfl⟩ := Option.map_eq_some_iff.mp e1
      obtain ⟨d', rfl, okb, szb⟩ := parts_nest (hd st hmem) hbl
      have ex2 := take_snoc hbl
      have hz2 : sizeBs ((partsOf st).take j) + sizeB bl ≤ sizeBs (partsOf st) := by
        have z := sizes_take (partsOf st) (j + 1)
        rw [ex2, sizeBs_append] at z
        simpa [sizeBs] using z
      have hzl : zs.length ≤ 2 := by
        have z1 : zs.length = ((partsOf st).take j).length := hbl6.len
        have z2 : ((partsOf st).take j).length ≤ (partsOf st).length := by rw [List.length_take]; omega
        have z3 : (partsOf st).length ≤ 2 := by cases st <;> simp [partsOf]
        omega
      have td6 := TD.ch c6 _ _ tdy
      generalize epb : pc + 1 + (sizeBs ((partsOf st).take j) : Nat) = pb
      refine ⟨.ref q0, rfl, .inl ⟨rfl, _, SqL.of gz⟩, y, rfl, .int pb, rfl, y, pb, bl, rfl, td6, okb, by omega, fun H7 R7 s7 r7 => ?_⟩
      refine ⟨q0, _, _, rfl, rfl, s7 _ _ gz, lt_line (by omega), ?_⟩
      have s06 : Same H H6 := ((Ch.same (Same.trans s03 s5)).trans c6).toSame (fun a h => by rw [List.mem_singleton.mp h]; exact nqH)
      have gR6 : H6 R = some (.lst xs) := c6.kp _ _ (fun z => neqR (List.mem_singleton.mp z).symm) (s5 _ _ (s3 _ _ gR))
      have c8 : Ch [q0] H7 (upd H7 q0 (.lst (zs ++ [.ref R7]))) := (Ch.refl _ _).put (by simp) (s7 _ _ gz) (fun xs z => by cases z)
      have g8 : upd H7 q0 (.lst (zs ++ [.ref R7])) q0 = some (.lst (zs ++ [.ref R7])) := upd_same
      generalize upd H7 q0 (.lst (zs ++ [.ref R7])) = H8 at c8 g8 ⊢
      have b8 : BlksV (RowsAt (d' + 1)) H8 (fun a => H a = none ∧ a ≠ R ∧ a ≠ q0) zs ((partsOf st).take j) (pc + 1) :=
        BlksV.ch (RowsAt.ch _) ((Ch.same s7).trans c8) (fun a g _ => ⟨fun z => g.2.2 (List.mem_singleton.mp z), g⟩) _ _ _ hbl6
      have r8 : RowsAt (d' + 1) H8 (fun a => H a = none ∧ a ≠ R ∧ a ≠ q0) R7 bl pb :=
        RowsAt.ch _ _ _ _ _ _ _ _ _ c8 (fun a g _ => by
          have g : H6 a = none := g
          have nq0 : a ≠ q0 := fun z => by rw [z, gz] at g; cases g
          refine ⟨fun z => nq0 (List.mem_singleton.mp z), ⟨?_, ⟨fun z => (by rw [z, gR6] at g; cases g), nq0⟩⟩⟩
          cases e : H a with
          | none => rfl
          | some o => rw [s06 _ _ e] at g; cases g) r7
      have td8 := TD.ch ((Ch.same s7).trans c8) _ _ td6
      refine ⟨.int pb, rfl, y, rfl, y, bl, rfl, td8, fun z hz => nest_le (okb z hz) (by omega), by omega, fun H9 s9 => ?_⟩
      refine ⟨_, _, rfl, rfl, ?_⟩
      refine ⟨((c6.trans (Ch.same s7)).trans c8).trans (Ch.same s9), ⟨zs ++ [.ref R7], s9 _ _ g8, ?_⟩, some y, ?_⟩
      · rw [ex2]
        refine BlksV.snoc (BlksV.ch (RowsAt.ch _) (Ch.same (S := []) s9) (fun a g _ => ⟨List.not_mem_nil, g⟩) _ _ _ b8) ?_
        rw [epb]
        exact RowsAt.ch _ _ _ _ _ _ _ _ _ (Ch.same (S := []) s9) (fun a g _ => ⟨List.not_mem_nil, g⟩) r8
      · have ee : pc + 1 + ((sizeBs ((partsOf st).take (j + 1)) : Nat) : Int) = pb + ((sizeB bl : Nat) : Int) := by
          rw [ex2, sizeBs_append, ← epb]
          simp [sizeBs]
          omega
        rw [ee]
        rfl
    · rintro σ H6 ⟨c6, ⟨zs, gz, hbl6⟩, x7, rfl⟩
      have s06 : Same H H6 := ((Ch.same (Same.trans s03 s5)).trans c6).toSame (fun a h => by rw [List.mem_singleton.mp h]; exact nqH)
      have gR6 : H6 R = some (.lst xs) := c6.kp _ _ (fun z => neqR (List.mem_singleton.mp z).symm) (s5 _ _ (s3 _ _ gR))
      rw [lys, List.take_length] at hbl6 ⊢
      have rows6 : RowsV (RowsAt d) H6 (fun a => H a = none ∧ a ≠ R ∧ a ≠ q0) xs (b.take i) pl :=
        RowsV.ch (RowsAt.ch d) ((Ch.same s5).trans c6) (fun a g _ => ⟨fun z => g.2.2 (List.mem_singleton.mp z), g⟩) _ _ _ rows3
      refine ⟨.ref R, rfl, .inl ⟨rfl, _, SqL.of gR6⟩, .int pc, rfl, x, rfl, .ref q0, rfl, line1000 (Nat.le_of_ble_eq_true rfl), fun t nt => ?_⟩
      have s7 := Same.up (o := HO.tup [V.int pc, x, V.ref q0]) nt
      have g7 : upd H6 t (HO.tup [V.int pc, x, V.ref q0]) t = some (.tup [V.int pc, x, V.ref q0]) := upd_same
      generalize upd H6 t (HO.tup [V.int pc, x, V.ref q0]) = H7 at s7 g7 ⊢
      refine ⟨R, _, _, rfl, rfl, s7 _ _ gR6, lt_line (by omega), ?_⟩
      have c8 : Ch [R] H7 (upd H7 R (.lst (xs ++ [.ref t]))) := (Ch.refl _ _).put (by simp) (s7 _ _ gR6) (fun xs z => by cases z)
      have g8 : upd H7 R (.lst (xs ++ [.ref t])) R = some (.lst (xs ++ [.ref t])) := upd_same
      have s08 : Same H (upd H7 R (.lst (xs ++ [.ref t]))) := Same.putN (Same.trans s06 s7) nR
      generalize upd H7 R (.lst (xs ++ [.ref t])) = H8 at c8 g8 s08 ⊢
      have c68 : Ch [R] H6 H8 := (Ch.same s7).trans c8
      have rows8 : RowsV (RowsAt d) H8 (fun a => H a = none ∧ a ≠ R) xs (b.take i) pl :=
        RowsV.ch (RowsAt.ch d) c68 (fun a g _ => ⟨fun z => g.2.1 (List.mem_singleton.mp z), g.1, g.2.1⟩) _ _ _ rows6
      have bl8 : BlksV (RowsAt d) H8 (fun a => H a = none ∧ a ≠ R) zs (partsOf st) (pc + 1) :=
        BlksV.ch (RowsAt.ch d) c68 (fun a g _ => ⟨fun z => g.2.1 (List.mem_singleton.mp z), g.1, g.2.1⟩) _ _ _ hbl6
      have row8 : RowV (RowsAt d) H8 (fun a => H a = none ∧ a ≠ R) (.ref t) st pc :=
        ⟨t, x, q0, zs, rfl, c8.tu _ _ g7, TD.ch (Ch.same (S := []) s08) _ _ tdx, ⟨nqH, neqR⟩, c68.kp _ _ (fun z => neqR (List.mem_singleton.mp z)) gz, bl8⟩
      refine ⟨_, rfl, s08, ⟨_, g8, ?_⟩, some x, some (.int (pc + 1 + (sizeBs (partsOf st) : Nat))), some (.ref q0), x7, ?_⟩
      · rw [ex]
        exact rows8.snoc (by rw [epc]; exact row8)
      · have ee : pl + ((sizeB (b.take (i + 1)) : Nat) : Int) = pc + 1 + ((sizeBs (partsOf st) : Nat) : Int) := by
          rw [ex, sizeB_append, sizeB_one, hsz, ← epc]
          omega
        rw [ee]
        rfl
  · rintro σ H2 ⟨s2, ⟨xs, gR, hrows⟩, x4, x5, x6, x7, rfl⟩
    rw [lb, List.take_length] at hrows
    exact ⟨_, rfl, q _ R s2 ⟨nR, xs, gR, RowsV.ch (RowsAt.ch d) (Ch.refl [] _) (fun c g _ => ⟨List.not_mem_nil, g.1⟩) _ _ _ hrows⟩⟩
theorem ok_placedAll {f fB fZ : Addr} {fd dB dZ : FuncData} (D : Df K mg "placed_block" s_placed ["block", "first"] f fd)
    (DB : Df K mg "blocks_of" s_blocks_of ["statement"] fB dB) (GB : FnOk P w K mg base CX0 1 fB dB ["statement"] spBO)
    (DZ : Df K mg "size_of" s_size ["block"] fZ dZ) (GZ : FnOk P w K mg base CX0 8 fZ dZ ["block"] spSize) : FnOk P w K mg base CX0 14 f fd ["block", "first"] (spPB 5) := by
  have Z : FnOk P w K mg base CX0 8 f fd ["block", "first"] (spPB' 0) := ⟨fun _ _ _ _ h => h.elim, fun _ _ _ _ _ _ _ _ _ _ _ _ _ h => h.elim⟩
  have B0 := ok_placed (d := 0) (by decide) (by decide) D.F DB GB DZ GZ D.m D.F.kp D.b Z
  have B1 := ok_placed (d := 1) (by decide) (by decide) D.F DB GB DZ GZ D.m D.F.kp D.b B0
  have B2 := ok_placed (d := 2) (by decide) (by decide) D.F DB GB DZ GZ D.m D.F.kp D.b B1
  have B3 := ok_placed (d := 3) (by decide) (by decide) D.F DB GB DZ GZ D.m D.F.kp D.b B2
  have B4 := ok_placed (d := 4) (by decide) (by decide) D.F DB GB DZ GZ D.m D.F.kp D.b B3
  exact ok_placed (d := 5) (by decide) (by decide) D.F DB GB DZ GZ D.m D.F.kp D.b B4
end
end G

set_option Elab.async false
set_option linter.all false
set_option maxRecDepth 100000
set_option maxHeartbeats 4000000
/-! Programs fixed, on paper. -/
namespace G
open PySem PySem.Spec PyProof.Rows L2 StX
theorem RowsV.at {P : RowP} {H : Hp} {G : Addr → Prop} : ∀ {vs : List V} {b : List Sta} {pl : Int} {i : Nat} {v : V}, RowsV P H G vs b pl → vs[i]? = some v → ∃ s, b[i]? = some s ∧ RowV P H G v s (pl + (sizeB (b.take i) : Nat))
  | [], [], _, i, v, _, h => by simp at h
  | u :: vs, s :: r, pl, 0, v, h, e => by
    cases e
    exact ⟨s, rfl, by simpa [sizeB] using h.1⟩
  | u :: vs, s :: r, pl, i + 1, v, h, e => by
    obtain ⟨t, e1, hr⟩ := RowsV.at (i := i) h.2 e
    refine ⟨t, e1, ?_⟩
    have e2 : pl + (s.size : Nat) + (sizeB (r.take i) : Nat) = pl + (sizeB ((s :: r).take (i + 1)) : Nat) := by
      show pl + (s.size : Nat) + (sizeB (r.take i) : Nat) = pl + ((s.size + sizeB (r.take i) : Nat) : Int)
      omega
    rw [e2] at hr
    exact hr
  | [], _ :: _, _, _, _, h, _ => h.elim
  | _ :: _, [], _, _, _, h, _ => h.elim
theorem BlksV.at {P : RowP} {H : Hp} {G : Addr → Prop} : ∀ {vs : List V} {bs : List (List Sta)} {pl : Int} {i : Nat} {v : V}, BlksV P H G vs bs pl → vs[i]? = some v → ∃ b R, bs[i]? = some b ∧ v = .ref R ∧ P H G R b (pl + (sizeBs (bs.take i) : Nat))
  | [], [], _, i, v, _, h => by simp at h
  | u :: vs, s :: r, pl, 0, v, h, e => by
    cases e
    obtain ⟨⟨R, e, hp⟩, _⟩ := h
    exact ⟨s, R, rfl, e, by simpa [sizeBs] using hp⟩
  | u :: vs, s :: r, pl, i + 1, v, h, e => by
    obtain ⟨t, R, e1, e3, hr⟩ := BlksV.at (i := i) h.2 e
    refine ⟨t, R, e1, e3, ?_⟩
    have e2 : pl + (sizeB s : Nat) + (sizeBs (r.take i) : Nat) = pl + (sizeBs ((s :: r).take (i + 1)) : Nat) := by
      show pl + (sizeB s : Nat) + (sizeBs (r.take i) : Nat) = pl + ((sizeB s + sizeBs (r.take i) : Nat) : Int)
      omega
    rw [e2] at hr
    exact hr
  | [], _ :: _, _, _, _, h, _ => h.elim
  | _ :: _, [], _, _, _, h, _ => h.elim
def tupItems : PyData → List PyData
  | .tuple ds => ds
  | _ => []
/-- what a statement becomes is a tuple of one or two -/
def MkOk (mk : Sta → PyData) : Prop := ∀ s, mk s = .tuple (tupItems (mk s)) ∧ (tupItems (mk s)).length ≤ 2
theorem mkOk_K : MkOk chK := fun s => by
  cases s with
  | act a => cases a <;> exact ⟨rfl, Nat.le_of_ble_eq_true rfl⟩
  | cond t y n => exact ⟨rfl, Nat.le_of_ble_eq_true rfl⟩
  | rep k b => exact ⟨rfl, Nat.le_of_ble_eq_true rfl⟩
theorem mkOk_S : MkOk chS := fun s => by
  cases s with
  | act a => cases a <;> exact ⟨rfl, Nat.le_of_ble_eq_true rfl⟩
  | cond t y n => exact ⟨rfl, Nat.le_of_ble_eq_true rfl⟩
  | rep k b => exact ⟨rfl, Nat.le_of_ble_eq_true rfl⟩
theorem mkOk_F : MkOk chF := fun s => ⟨rfl, Nat.le_of_ble_eq_true rfl⟩
section
variable (mk : Sta → PyData) (S : Int → Bool)
mutual
def fixS : Int → Sta → List PyData
  | pl, .act a => if S pl then tupItems (mk (.act a)) else [a.data]
  | pl, .cond t y n => if S pl then tupItems (mk (.cond t y n)) else [.tuple [.str "if", t.data, .tuple (fixB (pl + 1) y), .tuple (fixB (pl + 1 + (sizeB y : Nat)) n)]]
  | pl, .rep k b => if S pl then tupItems (mk (.rep k b)) else [.tuple [.str "repeat", .int k, .tuple (fixB (pl + 1) b)]]
def fixB : Int → List Sta → List PyData
  | _, [] => []
  | pl, s :: r => fixS pl s ++ fixB (pl + (s.size : Nat)) r
end
def fixBs : Int → List (List Sta) → List PyData
  | _, [] => []
  | pl, b :: bs => .tuple (fixB mk S pl b) :: fixBs (pl + (sizeB b : Nat)) bs
end
def hd2 : Sta → List PyData
  | .act _ => []
  | .cond t _ _ => [.str "if", t.data]
  | .rep k _ => [.str "repeat", .int k]
section
variable {mk : Sta → PyData} {S : Int → Bool}
theorem fixS_in {pl : Int} {s : Sta} (h : S pl = true) : fixS mk S pl s = tupItems (mk s) := by
  cases s <;> simp [fixS, h]
theorem fixS_act {pl : Int} {a : Act} (h : S pl = false) : fixS mk S pl (.act a) = [a.data] := by simp [fixS, h]
theorem fixS_not {pl : Int} {s : Sta} (h : S pl = false) (hp : partsOf s ≠ []) : fixS mk S pl s = [.tuple (hd2 s ++ fixBs mk S (pl + 1) (partsOf s))] := by
  cases s with
  | act a => exact absurd rfl hp
  | cond t y n => simp [fixS, h, hd2, partsOf, fixBs]
  | rep k b => simp [fixS, h, hd2, partsOf, fixBs]
theorem fixB_snoc (s : Sta) : ∀ (b : List Sta) (pl : Int), fixB mk S pl (b ++ [s]) = fixB mk S pl b ++ fixS mk S (pl + (sizeB b : Nat)) s
  | [], pl => by
    show fixS mk S pl s ++ [] = [] ++ fixS mk S (pl + ((0 : Nat) : Int)) s
    rw [List.append_nil, show pl + ((0 : Nat) : Int) = pl by omega]
    rfl
  | x :: r, pl => by
    show fixS mk S pl x ++ fixB mk S (pl + (x.size : Nat)) (r ++ [s]) = fixS mk S pl x ++ fixB mk S (pl + (x.size : Nat)) r ++ fixS mk S (pl + ((x.size + sizeB r : Nat) : Int)) s
    rw [fixB_snoc s r, List.append_assoc, show pl + (x.size : Nat) + (sizeB r : Nat) = pl + ((x.size + sizeB r : Nat) : Int) by omega]
theorem fixBs_snoc (c : List Sta) : ∀ (b : List (List Sta)) (pl : Int), fixBs mk S pl (b ++ [c]) = fixBs mk S pl b ++ [.tuple (fixB mk S (pl + (sizeBs b : Nat)) c)]
  | [], pl => by
    show [PyData.tuple (fixB mk S pl c)] = [] ++ [.tuple (fixB mk S (pl + ((0 : Nat) : Int)) c)]
    rw [show pl + ((0 : Nat) : Int) = pl by omega]
    rfl
  | x :: r, pl => by
    show PyData.tuple (fixB mk S pl x) :: fixBs mk S (pl + (sizeB x : Nat)) (r ++ [c]) = PyData.tuple (fixB mk S pl x) :: (fixBs mk S (pl + (sizeB x : Nat)) r ++ [.tuple (fixB mk S (pl + ((sizeB x + sizeBs r : Nat) : Int)) c)])
    rw [fixBs_snoc c r, show pl + (sizeB x : Nat) + (sizeBs r : Nat) = pl + ((sizeB x + sizeBs r : Nat) : Int) by omega]
theorem fixBs_len : ∀ (b : List (List Sta)) (pl : Int), (fixBs mk S pl b).length = b.length
  | [], pl => rfl
  | x :: r, pl => congrArg (· + 1) (fixBs_len r _)
theorem fixS_len (hm : MkOk mk) (pl : Int) (s : Sta) : (fixS mk S pl s).length ≤ 2 := by
  cases e : S pl with
  | true =>
    rw [fixS_in e]
    exact (hm s).2
  | false => cases s <;> simp [fixS, e]
theorem fixB_len (hm : MkOk mk) : ∀ (b : List Sta) (pl : Int), (fixB mk S pl b).length ≤ 2 * b.length
  | [], pl => Nat.zero_le _
  | x :: r, pl => by
    show (fixS mk S pl x ++ fixB mk S (pl + (x.size : Nat)) r).length ≤ 2 * (r.length + 1)
    have h1 := fixS_len (S := S) hm pl x
    have h2 := fixB_len hm r (pl + (x.size : Nat))
    rw [List.length_append]
    omega
end
/-! ### at all places -/
section
variable (R : Int → Sta → Prop)
mutual
def AllS : Int → Sta → Prop
  | pl, .act a => R pl (.act a)
  | pl, .cond t y n => R pl (.cond t y n) ∧ AllB (pl + 1) y ∧ AllB (pl + 1 + (sizeB y : Nat)) n
  | pl, .rep k b => R pl (.rep k b) ∧ AllB (pl + 1) b
def AllB : Int → List Sta → Prop
  | _, [] => True
  | pl, s :: r => AllS pl s ∧ AllB (pl + (s.size : Nat)) r
end
end
section
variable {R R' : Int → Sta → Prop}
theorem AllS.here {pl : Int} {s : Sta} (h : AllS R pl s) : R pl s := by
  cases s with
  | act a => exact h
  | cond t y n => exact (show R pl (.cond t y n) ∧ AllB R (pl + 1) y ∧ AllB R (pl + 1 + (sizeB y : Nat)) n from h).1
  | rep k b => exact (show R pl (.rep k b) ∧ AllB R (pl + 1) b from h).1
theorem AllB.at : ∀ {b : List Sta} {pl : Int} {i : Nat} {s : Sta}, AllB R pl b → b[i]? = some s → AllS R (pl + (sizeB (b.take i) : Nat)) s
  | [], _, i, _, _, e => by simp at e
  | x :: r, pl, 0, s, h, e => by
    cases e
    have h : AllS R pl x ∧ AllB R (pl + (x.size : Nat)) r := h
    simpa [sizeB] using h.1
  | x :: r, pl, i + 1, s, h, e => by
    have h : AllS R pl x ∧ AllB R (pl + (x.size : Nat)) r := h
    have z := AllB.at (i := i) h.2 e
    have e2 : pl + (x.size : Nat) + (sizeB (r.take i) : Nat) = pl + (sizeB ((x :: r).take (i + 1)) : Nat) := by
      show pl + (x.size : Nat) + (sizeB (r.take i) : Nat) = pl + ((x.size + sizeB (r.take i) : Nat) : Int)
      omega
    rw [e2] at z
    exact z
theorem AllS.part {pl : Int} {s : Sta} {j : Nat} {bl : List Sta} (h : AllS R pl s) (e : (partsOf s)[j]? = some bl) : AllB R (pl + 1 + (sizeBs ((partsOf s).take j) : Nat)) bl := by
  cases s with
  | act a => simp [partsOf] at e
  | cond t y n =>
    have h : R pl (.cond t y n) ∧ AllB R (pl + 1) y ∧ AllB R (pl + 1 + (sizeB y : Nat)) n := h
    match j, e with
    | 0, e =>
      cases e
      simpa [partsOf, sizeBs] using h.2.1
    | 1, e =>
      cases e
      simpa [partsOf, sizeBs] using h.2.2
    | j + 2, e => simp [partsOf] at e
  | rep k b =>
    have h : R pl (.rep k b) ∧ AllB R (pl + 1) b := h
    match j, e with
    | 0, e =>
      cases e
      simpa [partsOf, sizeBs] using h.2
    | j + 1, e => simp [partsOf] at e
mutual
theorem AllS.imp (hi : ∀ pl s, R pl s → R' pl s) : ∀ (s : Sta) (pl : Int), AllS R pl s → AllS R' pl s
  | .act a, pl, h => hi _ _ h
  | .cond t y n, pl, h => by
    have h : R pl (.cond t y n) ∧ AllB R (pl + 1) y ∧ AllB R (pl + 1 + (sizeB y : Nat)) n := h
    exact ⟨hi _ _ h.1, AllB.imp hi y _ h.2.1, AllB.imp hi n _ h.2.2⟩
  | .rep k b, pl, h => by
    have h : R pl (.rep k b) ∧ AllB R (pl + 1) b := h
    exact ⟨hi _ _ h.1, AllB.imp hi b _ h.2⟩
theorem AllB.imp (hi : ∀ pl s, R pl s → R' pl s) : ∀ (b : List Sta) (pl : Int), AllB R pl b → AllB R' pl b
  | [], _, _ => trivial
  | s :: r, pl, h => by
    have h : AllS R pl s ∧ AllB R (pl + (s.size : Nat)) r := h
    exact ⟨AllS.imp hi s _ h.1, AllB.imp hi r _ h.2⟩
end
mutual
theorem allS_rows : ∀ (s : Sta) (k : Nat) (pl : Int), (∀ (i : Nat) (p : Nat × Sta), (staRows k s)[i]? = some p → R (pl + (i : Nat)) p.2) → AllS R pl s
  | .act a, k, pl, h => by
    have z := h 0 (k, .act a) rfl
    rw [show pl + ((0 : Nat) : Int) = pl by omega] at z
    exact z
  | .cond t y n, k, pl, h => by
    have z := h 0 (k, .cond t y n) rfl
    rw [show pl + ((0 : Nat) : Int) = pl by omega] at z
    refine ⟨z, allB_rows y (k + 1) _ fun i p hp => ?_, allB_rows n (k + 1) _ fun i p hp => ?_⟩
    · have hl : i < (rowsP (k + 1) y).length := (List.getElem?_eq_some_iff.mp hp).1
      have z := h (i + 1) p (by
        show ((k, Sta.cond t y n) :: (rowsP (k + 1) y ++ rowsP (k + 1) n))[i + 1]? = some p
        rw [List.getElem?_cons_succ, List.getElem?_append_left hl, hp])
      rw [show pl + 1 + (i : Nat) = pl + ((i + 1 : Nat) : Int) by omega]
      exact z
    · have z := h (sizeB y + i + 1) p (by
        show ((k, Sta.cond t y n) :: (rowsP (k + 1) y ++ rowsP (k + 1) n))[sizeB y + i + 1]? = some p
        rw [List.getElem?_cons_succ, List.getElem?_append_right (by rw [rowsP_len]; omega), rowsP_len, show sizeB y + i - sizeB y = i by omega, hp])
      rw [show pl + 1 + (sizeB y : Nat) + (i : Nat) = pl + ((sizeB y + i + 1 : Nat) : Int) by omega]
      exact z
  | .rep c b, k, pl, h => by
    have z := h 0 (k, .rep c b) rfl
    rw [show pl + ((0 : Nat) : Int) = pl by omega] at z
    refine ⟨z, allB_rows b (k + 1) _ fun i p hp => ?_⟩
    have z := h (i + 1) p (by
      show ((k, Sta.rep c b) :: rowsP (k + 1) b)[i + 1]? = some p
      rw [List.getElem?_cons_succ, hp])
    rw [show pl + 1 + (i : Nat) = pl + ((i + 1 : Nat) : Int) by omega]
    exact z
theorem allB_rows : ∀ (b : List Sta) (k : Nat) (pl : Int), (∀ (i : Nat) (p : Nat × Sta), (rowsP k b)[i]? = some p → R (pl + (i : Nat)) p.2) → AllB R pl b
  | [], _, _, _ => trivial
  | s :: r, k, pl, h => by
    refine ⟨allS_rows s k pl fun i p hp => ?_, allB_rows r k _ fun i p hp => ?_⟩
    · have hl : i < (staRows k s).length := (List.getElem?_eq_some_iff.mp hp).1
      exact h i p (by
        show (staRows k s ++ rowsP k r)[i]? = some p
        rw [List.getElem?_append_left hl, hp])
    · have z := h (s.size + i) p (by
        show (staRows k s ++ rowsP k r)[s.size + i]? = some p
        rw [List.getElem?_append_right (by rw [staRows_len]; omega), staRows_len, show s.size + i - s.size = i by omega, hp])
      rw [show pl + (s.size : Nat) + (i : Nat) = pl + ((s.size + i : Nat) : Int) by omega]
      exact z
end
end
end G

set_option Elab.async false
set_option linter.all false
set_option maxRecDepth 100000
set_option maxHeartbeats 4000000
/-! xs.extend(a tuple). -/
namespace PySem.AutoSeq1
open PySem PySem.Spec
theorem list_extend_tupleG (l : Addr) (items : Array Value) (n : Nat) (b : Addr) (dd : Option Addr) (sl : Array (Option Value)) (items2 : Array Value) (n2 : Nat) (hs0 : ¬(!items.isEmpty && Builtin.List.listTooLong (items.size + items2.size)) = true) (hs1 : items.size ≤ sizeLine) (hs2 : items.size + items2.size ≤ sizeLine + 1 := by seq_fits) :
    Meets (Builtin.«list.extend» ⟨[.ref l, .ref b], []⟩) (fun _ R s => s.heap.get? l = some { cls := .type "list", dict := none, data := .seq items n, slots := #[] } ∧ s.heap.get? b = some { cls := .type "tuple", dict := dd, data := .seq items2 n2, slots := sl } ∧ R (.ok (.ret Value.none)) { s with heap := s.heap.update l (Obj.mapSeq fun x => x ++ items2), toks := s.toks }) :=
  .of_wp fun prog w A R s h => by
    obtain ⟨hp, g, d, tk, os⟩ := s; obtain ⟨hl, hb, h⟩ := h; have f1 := PySem.AutoSeq1.idx_int; have f2 := sub_tuple_tuple; have f3 := sub_list_list; have f4 := sub_tuple_list; have f5 := sub_list_tuple;
    have hz' : (items ++ items2).size ≤ sizeLine + 1 := by rw [Array.size_append]; exact hs2
    wp_walk using (wpAny_updateSeq hl rfl (hz := hs1) (_hz' := hz')), wpAny_loadPart' hl, wpAny_loadPart' hb; exact ⟨_, rfl, h⟩
end PySem.AutoSeq1
namespace G
open PySem PySem.Spec PyProof.Rows L2
variable {X : Cx}
def rExtendT : V → List V → Hp → VK → Prop := fun x vs H Q => ∃ l b xs zs, x = .ref l ∧ vs = [.ref b] ∧ H l = some (.lst xs) ∧ H b = some (.tup zs) ∧ xs.length + zs.length ≤ sizeLine ∧ Q .non (upd H l (.lst (xs ++ zs)))
theorem mt_extendT : MtM X "list.extend" rExtendT := by
  intro pins s σ H x vs v us Q I rx rv h
  obtain ⟨l, b, xs, zs, rfl, rfl, hH, hB, hz, q⟩ := h
  cases rx
  obtain ⟨u, rfl, ru⟩ := rv.one
  cases ru
  obtain ⟨z, its, n, r, hl, e⟩ := I.lstM hH
  obtain ⟨its2, r2, ⟨o2, e2, hc2, n2, hd2⟩, z2⟩ := I.tuple (SqT.of hB)
  have hl2 := r2.length
  obtain ⟨oc, dd, od, sl⟩ := o2
  obtain rfl : oc = .type "tuple" := hc2
  obtain rfl : od = .seq its2.toArray n2 := hd2
  have hsz : its.toArray.size + its2.toArray.size ≤ sizeLine := by rw [List.size_toArray, List.size_toArray]; omega
  have hlong : ¬ (!its.toArray.isEmpty && Builtin.List.listTooLong (its.toArray.size + its2.toArray.size)) = true := by
    rw [notLongL hsz, Bool.and_false]
    exact Bool.false_ne_true
  refine call_meets F.slot_list_extend ⟨_, e, rfl⟩ F.entry_list_extend (F.args_list_extend_2 _ _)
    (PySem.AutoSeq1.list_extend_tupleG l its.toArray n b dd sl its2.toArray n2 hlong (by rw [List.size_toArray]; omega) (by omega)) ⟨e, e2, ?_⟩
  refine ⟨.non, _, I.lset (its' := its ++ its2) hH e (by simp) (r.append r2) ?_, rfl, q⟩
  rw [List.length_append]
  omega
end G

set_option Elab.async false
set_option linter.all false
set_option maxRecDepth 100000
set_option maxHeartbeats 4000000
/-! _rebuilt_rows, rebuilt. -/
namespace G
open PySem PySem.Spec PyProof.Rows L2 StX
/-- what stands for the statement at a place -/
def Stnd (H : Hp) (kvs : List (Key × V)) (mk : Sta → PyData) (S : Int → Bool) (pl : Int) (s : Sta) : Prop :=
  (S pl = true → ∃ v, valV kvs (.inl pl) = some v ∧ TD H v (mk s)) ∧ (S pl = false → valV kvs (.inl pl) = none)
theorem Stnd.same {H H' : Hp} {kvs : List (Key × V)} {mk : Sta → PyData} {S : Int → Bool} (sm : Same H H') (pl : Int) (s : Sta) (h : Stnd H kvs mk S pl s) : Stnd H' kvs mk S pl s :=
  ⟨fun e => let ⟨v, e1, t⟩ := h.1 e; ⟨v, e1, TD.ch (Ch.same (S := []) sm) _ _ t⟩, h.2⟩
def spRb (d : Nat) : Sp := fun vs H Q _ => ∃ (R D : Addr) (kvs : List (Key × V)) (b : List Sta) (pl : Int) (mk : Sta → PyData) (S : Int → Bool), vs = [.ref R, .ref D] ∧ RowsAt (d + 1) H (fun _ => True) R b pl ∧ H D = some (.dK kvs) ∧ MkOk mk ∧
  AllB (Stnd H kvs mk S) pl b ∧ (∀ s ∈ b, NestOk d s) ∧ sizeB b ≤ 1000 ∧ ∀ H' p, Same H H' → TD H' (.ref p) (.tuple (fixB mk S pl b)) → Q (.ref p) H'
def spRb' : Nat → Sp
  | 0 => fun _ _ _ _ => False
  | d + 1 => spRb d
theorem parts_shape {s : Sta} (h : partsOf s ≠ []) : ∃ a b c ds, s.data = .tuple (a :: b :: c :: ds) ∧ hd2 s = [a, b] := by
  cases s with
  | act a => exact absurd rfl h
  | cond t y n => exact ⟨_, _, _, _, rfl, rfl⟩
  | rep k b => exact ⟨_, _, _, _, rfl, rfl⟩
theorem to2_not (a b c : V) (ys : List V) : ¬ HT.sIx (a :: b :: c :: ys).length (a :: b :: c :: ys).length (some 2) = (a :: b :: c :: ys).length := by
  rw [show HT.sIx (a :: b :: c :: ys).length (a :: b :: c :: ys).length (some 2) = min 2 (a :: b :: c :: ys).length from HT.sIx_nat _ _ 2]
  simp only [List.length_cons]
  omega
theorem to2_cut (a b c : V) (ys : List V) : cutV (a :: b :: c :: ys) none (some 2) = [a, b] := by
  unfold cutV
  rw [show HT.sIx (a :: b :: c :: ys).length (a :: b :: c :: ys).length (some 2) = min 2 (a :: b :: c :: ys).length from HT.sIx_nat _ _ 2, HT.sIx_none,
    show min 2 (a :: b :: c :: ys).length = 2 by simp only [List.length_cons]; omega]
  rfl
section
variable {P : Program} {w : World} {K : PySem.W.Frag} {mg : Str → Option Value} {base : Heap}
abbrev s__rebuilt_rows : Stmt := top 12
abbrev n__rebuilt_rows : List Str := ["rows", "standing", "found", "place", "statement", "blocks", "part"]
theorem sc__rebuilt_rows : FnScope n__rebuilt_rows ["rows", "standing"] (defScope s__rebuilt_rows) := ⟨rfl, rfl, rfl, by decide +kernel, rfl, by decide +kernel, by decide +kernel⟩
theorem ok_rb {f fS : Addr} {fd dS : FuncData} {d k0 : Nat} (F : Fun K "_rebuilt_rows" "_rebuilt_rows" s__rebuilt_rows f fd) (z_tuple : mg "tuple" = none)
    (mS : mg "_rebuilt_rows" = some (.ref fS)) (kS : PySem.W.keepIn K (.ref fS) = true) (bS : Binds K dS ["rows", "standing"] []) (GS : FnOk P w K mg base CX0 k0 fS dS ["rows", "standing"] (spRb' d)) : FnOk P w K mg base CX0 (k0 + 1) f fd ["rows", "standing"] (spRb d) := by
  refine F.ok sc__rebuilt_rows (fun vs H Q E ⟨R, D, kvs, b, pl, mk, S, ev, _⟩ => by rw [ev]; rfl) (fun cdv A outer s0 H vs Q E hr ⟨R, D, kvs, b, pl, mk, S, ev, hR, gD, hm, hall, nest, hz, q⟩ => ?_)
  subst ev
  refine ⟨_, (pss_cons (ps_set (i := 2) sc__rebuilt_rows.nd rfl (.inl rfl) (pe_lst pa_nil))
      (pss_cons (ps_for PassesOwn.never rfl (pi_list (pv 0)) (pg_tup rfl (pgs_cons (pg_name (i := 3) sc__rebuilt_rows.nd rfl (.inl rfl)) (pgs_cons (pg_name (i := 4) sc__rebuilt_rows.nd rfl (.inl rfl)) (pgs_cons (pg_name (i := 5) sc__rebuilt_rows.nd rfl (.inl rfl)) pgs_nil))))
      (pss_one (ps_if (pt_cmp (pc_din (hu_of hr) (pv 3) (pv 1)))
      (pss_one (ps_expr (pe_bm PySem.F.plainAttrs_list PySem.F.slot_list_extend PySem.F.type_list_extend mt_extendT (pv 2) (pa_cons (pe_dget (hu_of hr) (pv 1) (pv 3) (fun _ _ => rfl)) pa_nil))))
      (pss_one (ps_if (pt_truth (pv 5) (by intro _; rfl))
      (pss_one (ps_expr (pe_bm PySem.F.plainAttrs_list PySem.F.slot_list_append PySem.F.type_list_append mt_append (pv 2) (pa_cons (pe_op op_catA (pe_slice sl_tupA (pv 4) po_none (po_some pe_int)) (pe_callTy call_tuple_of (by rfl) z_tuple (by decide +kernel) (pa_cons (pe_lc (own := [("part", 6)]) (by rfl) sc__rebuilt_rows.nd (pi_list (pv 5)) (blkOk_by (N := n__rebuilt_rows) (sc := defScope s__rebuilt_rows) (by decide +kernel)) (fun _ _ _ _ _ => (pg_name (i := 6) sc__rebuilt_rows.nd rfl (.inl rfl))) (fun _ _ _ _ _ => pts_nil) (fun _ _ _ _ _ => (pe_call GS hr (by rfl) mS kS bS .nil pass0 (pa_cons (pv 6) (pa_cons (pv 1) pa_nil))))) pa_nil))) pa_nil))))
      (pss_one (ps_expr (pe_bm PySem.F.plainAttrs_list PySem.F.slot_list_append PySem.F.type_list_append mt_append (pv 2) (pa_cons (pv 4) pa_nil)))))))))
      (pss_one (ps_ret (pe_callTy call_tuple_of (by rfl) z_tuple (by decide +kernel) (pa_cons (pv 2) pa_nil)))))), ?_⟩
  obtain ⟨_, xs, gR, hv⟩ := hR
  have lx := hv.len
  have lb := len_size b
  refine ⟨Nat.zero_le _, fun Ln nLn => ?_⟩
  have s1 := Same.up (o := HO.lst []) nLn
  have gL1 : upd H Ln (HO.lst []) Ln = some (.lst []) := upd_same
  generalize upd H Ln (HO.lst []) = H1 at s1 gL1 ⊢
  refine ⟨_, rfl, R, rfl, ⟨_, SqL.of (s1 _ _ gR)⟩, for_list (xs := xs) (fun j σ H' => Same H H' ∧ ∃ (acc : List V) (x3 x4 x5 x6 : Option V), H' Ln = some (.lst acc) ∧ TDs H' acc (fixB mk S pl (b.take j)) ∧ σ = [some (.ref R), some (.ref D), some (.ref Ln), x3, x4, x5, x6])
    ⟨s1, [], none, none, none, none, gL1, .nil, rfl⟩ (fun j σ H' _ h => SqL.of (h.1 _ _ gR)) ?_ ?_⟩
  · rintro j x σ H' hx ⟨sm, acc, x3, x4, x5, x6, gL, tda, rfl⟩
    have hv1 := RowsV.ch (G' := fun _ => True) (RowsAt.ch d) (Ch.same (S := []) sm) (fun a g _ => ⟨List.not_mem_nil, trivial⟩) _ _ _ hv
    obtain ⟨st, hst, t, sv, qa, ys, rfl, ht, tds, _, hq, hbl⟩ := hv1.at hx
    have hmem : st ∈ b := List.mem_of_getElem? hst
    have ex := take_snoc hst
    have hal := hall.at hst
    have hsz := size_mem hmem
    have lacc : acc.length ≤ 2000 := by
      rw [tda.len]
      have := fixB_len (S := S) hm (b.take j) pl
      have : (b.take j).length ≤ b.length := by rw [List.length_take]; omega
      omega
    have stepE : fixB mk S pl (b.take (j + 1)) = fixB mk S pl (b.take j) ++ fixS mk S (pl + (sizeB (b.take j) : Nat)) st := by rw [ex, fixB_snoc]
    generalize epl : pl + (sizeB (b.take j) : Nat) = pl1 at hal hbl ht stepE
    have hh := hal.here
    refine ⟨t, _, rfl, SqT.of ht, rfl, _, _, rfl, _, _, rfl, _, _, rfl, rfl, ?_⟩
    refine ⟨.int pl1, rfl, .ref D, rfl, D, _, rfl, DGet.k (k := .inl pl1) (sm _ _ gD), _, rfl, ite2 (fun hc => ?_) (fun hc => ?_)⟩
    · have eS : S pl1 = true := by
        cases e : S pl1 with
        | true => rfl
        | false =>
          rw [hh.2 e] at hc
          cases hc
      obtain ⟨v, ev, tdv⟩ := hh.1 eS
      rw [(hm st).1] at tdv
      obtain ⟨bb, zs, rfl, gb, tz⟩ := td_tup tdv
      have lz : zs.length ≤ 2 := by rw [tz.len]; exact (hm st).2
      have dg : DGet H' D (.int pl1) (some (.ref bb)) := by
        rw [← ev]
        exact DGet.k (k := .inl pl1) (sm _ _ gD)
      have c3 : Ch [Ln] H' (upd H' Ln (.lst (acc ++ zs))) := (Ch.refl _ _).put (by simp) gL (fun xs z => by cases z)
      refine ⟨.ref Ln, rfl, .inl ⟨rfl, _, SqL.of gL⟩, .ref D, rfl, .int pl1, rfl, D, _, rfl, dg, Ln, bb, acc, zs, rfl, rfl, gL, sm _ _ gb, Nat.le_of_lt (lt_line (by omega)), Same.putN sm nLn, acc ++ zs, _, _, _, _, upd_same, ?_, rfl⟩
      rw [stepE, fixS_in eS]
      exact TDs.ch c3 _ _ (tda.append (TDs.ch (Ch.same (S := []) sm) _ _ tz))
    · have eS : S pl1 = false := by
        cases e : S pl1 with
        | false => rfl
        | true =>
          obtain ⟨v, ev, _⟩ := hh.1 e
          rw [ev] at hc
          exact absurd rfl hc
      have lys := hbl.len
      refine ⟨.ref qa, rfl, !ys.isEmpty, .inl ⟨ys, SqL.of hq, rfl⟩, ite2 (fun hb => ?_) (fun hb => ?_)⟩
      · have hp : partsOf st ≠ [] := fun z => by
          rw [z] at lys
          rw [List.length_eq_zero_iff.mp lys] at hb
          cases hb
        obtain ⟨pa, pb, pc, pds, ed, eh⟩ := parts_shape hp
        have tds0 := tds
        rw [ed] at tds0
        obtain ⟨r0, zs, rfl, gr0, tz⟩ := td_tup tds0
        obtain ⟨v1, zs, rfl, d1, tz⟩ := tds_cons tz
        obtain ⟨v2, zs, rfl, d2, tz⟩ := tds_cons tz
        obtain ⟨v3, zs, rfl, d3, tz⟩ := tds_cons tz
        refine ⟨.ref Ln, rfl, .inl ⟨rfl, _, SqL.of gL⟩, .ref r0, rfl, _, rfl, r0, _, rfl, SqT.of gr0, fun h => absurd h.2 (to2_not _ _ _ _), fun _ p np => ?_⟩
        rw [to2_cut]
        have s2 := Same.up (o := HO.tup [v1, v2]) np
        have tdp : TD (upd H' p (HO.tup [v1, v2])) (.ref p) (.tuple (hd2 st)) := by
          rw [eh]
          exact .tup upd_same (.cons (TD.ch (Ch.same (S := []) s2) _ _ d1) (.cons (TD.ch (Ch.same (S := []) s2) _ _ d2) .nil))
        generalize upd H' p (HO.tup [v1, v2]) = H2 at s2 tdp ⊢
        have sm2 := Same.trans sm s2
        have hq2 := s2 _ _ hq
        refine ⟨.ref qa, rfl, qa, rfl, ⟨_, SqL.of hq2⟩, fun Dd nD => ?_⟩
        have neD : qa ≠ Dd := fun z => by rw [z, nD] at hq2; cases hq2
        refine lc_list (xs := ys) (fun i H3 => Ch [Dd] H2 H3 ∧ ∃ acc2, H3 Dd = some (.lst acc2) ∧ TDs H3 acc2 (fixBs mk S (pl1 + 1) ((partsOf st).take i))) ⟨(Ch.refl _ _).new nD, [], upd_same, .nil⟩ (fun i H3 _ h => SqL.of (h.1.kp _ _ (by simp [neD]) hq2)) ?_ ?_
        · rintro i y H3 hy ⟨c3, acc2, gd, td2⟩
          have s3 : Same H2 H3 := (c3.kp.fresh nD).toSame
          have sm3 := Same.trans sm2 s3
          have hbl3 := BlksV.ch (G' := fun _ => True) (RowsAt.ch d) (Ch.same (S := []) (Same.trans s2 s3)) (fun a g _ => ⟨List.not_mem_nil, trivial⟩) _ _ _ hbl
          obtain ⟨bl, R2, hb2, rfl, hpr⟩ := hbl3.at hy
          obtain ⟨d', rfl, okb, szb⟩ := parts_nest (nest st hmem) hb2
          have la2 : acc2.length ≤ 2 := by
            rw [td2.len, fixBs_len]
            have z2 : ((partsOf st).take i).length ≤ (partsOf st).length := by rw [List.length_take]; omega
            have z3 : (partsOf st).length ≤ 2 := by cases st <;> simp [partsOf]
            omega
          refine ⟨rfl, .ref R2, rfl, .ref D, rfl, R2, D, kvs, bl, _, mk, S, rfl, hpr, sm3 _ _ gD, hm, AllB.imp (Stnd.same sm3) _ _ (hal.part hb2), okb, by omega, fun H4 p4 s4 td4 => ⟨_, s4 _ _ gd, small1000 (by omega), ?_⟩⟩
          have c4 : Ch [Dd] H4 (upd H4 Dd (.lst (acc2 ++ [.ref p4]))) := (Ch.refl _ _).put (by simp) (s4 _ _ gd) (fun xs z => by cases z)
          refine ⟨(c3.trans (Ch.same s4)).trans c4, _, upd_same, ?_⟩
          rw [take_snoc hb2, fixBs_snoc]
          exact TDs.ch c4 _ _ ((TDs.ch (Ch.same (S := []) s4) _ _ td2).snoc td4)
        · rintro H3 ⟨c3, acc2, gd, td2⟩
          have s3 : Same H2 H3 := (c3.kp.fresh nD).toSame
          rw [lys, List.take_length] at td2
          refine ⟨Dd, acc2, rfl, .inl ⟨SqL.of gd, fun l nl => ?_⟩⟩
          have s4 := Same.up (o := HO.tup acc2) nl
          have tdl : TD (upd H3 l (HO.tup acc2)) (.ref l) (.tuple (fixBs mk S (pl1 + 1) (partsOf st))) := .tup upd_same (TDs.ch (Ch.same (S := []) s4) _ _ td2)
          generalize upd H3 l (HO.tup acc2) = H4 at s4 tdl ⊢
          have lfb : (fixBs mk S (pl1 + 1) (partsOf st)).length ≤ 2 := by
            rw [fixBs_len]
            cases st <;> simp [partsOf]
          refine cat_td (TD.ch (Ch.same (S := []) (Same.trans s3 s4)) _ _ tdp) tdl (by rw [eh]; simp only [List.length_cons, List.length_nil]; omega) fun H5 v s5 td5 => ?_
          have sm5 := Same.trans sm2 (Same.trans s3 (Same.trans s4 s5))
          have s25 := Same.trans s2 (Same.trans s3 (Same.trans s4 s5))
          have c6 : Ch [Ln] H5 (upd H5 Ln (.lst (acc ++ [v]))) := (Ch.refl _ _).put (by simp) (s25 _ _ gL) (fun xs z => by cases z)
          refine ⟨Ln, acc, v, rfl, rfl, s25 _ _ gL, lt_line (by omega), Same.putN sm5 nLn, acc ++ [v], _, _, _, _, upd_same, ?_, rfl⟩
          rw [stepE, fixS_not eS hp]
          exact TDs.ch c6 _ _ ((TDs.ch (Ch.same (S := []) s25) _ _ tda).snoc td5)
      · have hp : partsOf st = [] := by
          have e0 : ys = [] := by
            cases ys with
            | nil => rfl
            | cons a r => exact absurd rfl hb
          rw [e0] at lys
          exact List.length_eq_zero_iff.mp lys.symm
        have ea : ∃ a, st = .act a := by
          cases st with
          | act a => exact ⟨a, rfl⟩
          | cond t y n => cases hp
          | rep k b => cases hp
        obtain ⟨a, rfl⟩ := ea
        have c6 : Ch [Ln] H' (upd H' Ln (.lst (acc ++ [sv]))) := (Ch.refl _ _).put (by simp) gL (fun xs z => by cases z)
        refine ⟨.ref Ln, rfl, .inl ⟨rfl, _, SqL.of gL⟩, sv, rfl, Ln, acc, sv, rfl, rfl, gL, lt_line (by omega), Same.putN sm nLn, acc ++ [sv], _, _, _, _, upd_same, ?_, rfl⟩
        rw [stepE, fixS_act eS]
        exact TDs.ch c6 _ _ (tda.snoc tds)
  · rintro σ H' ⟨sm, acc, x3, x4, x5, x6, gL, tda, rfl⟩
    rw [lx, List.take_length] at tda
    refine ⟨_, rfl, Ln, acc, rfl, .inl ⟨SqL.of gL, fun l nl => ?_⟩⟩
    have s4 := Same.up (o := HO.tup acc) nl
    exact q _ l (Same.trans sm s4) (.tup upd_same (TDs.ch (Ch.same (S := []) s4) _ _ tda))
theorem ok_rbAll {f : Addr} {fd : FuncData} (D : Df K mg "_rebuilt_rows" s__rebuilt_rows ["rows", "standing"] f fd) (z_tuple : mg "tuple" = none) : FnOk P w K mg base CX0 7 f fd ["rows", "standing"] (spRb 5) := by
  have Z : FnOk P w K mg base CX0 1 f fd ["rows", "standing"] (spRb' 0) := ⟨fun _ _ _ _ h => h.elim, fun _ _ _ _ _ _ _ _ _ _ _ _ _ h => h.elim⟩
  have B0 := ok_rb (d := 0) D.F z_tuple D.m D.F.kp D.b Z
  have B1 := ok_rb (d := 1) D.F z_tuple D.m D.F.kp D.b B0
  have B2 := ok_rb (d := 2) D.F z_tuple D.m D.F.kp D.b B1
  have B3 := ok_rb (d := 3) D.F z_tuple D.m D.F.kp D.b B2
  have B4 := ok_rb (d := 4) D.F z_tuple D.m D.F.kp D.b B3
  exact ok_rb (d := 5) D.F z_tuple D.m D.F.kp D.b B4
abbrev s_rebuilt : Stmt := top 13
abbrev n_rebuilt : List Str := ["program", "standing"]
theorem sc_rebuilt : FnScope n_rebuilt ["program", "standing"] (defScope s_rebuilt) := ⟨rfl, rfl, rfl, by decide +kernel, rfl, by decide +kernel, by decide +kernel⟩
def spReb : Sp := fun vs H Q _ => ∃ (v : V) (g : Int) (D : Addr) (kvs : List (Key × V)) (b : List Sta) (mk : Sta → PyData) (S : Int → Bool), vs = [v, .ref D] ∧ TD H v (.tuple [.int g, partD b]) ∧ H D = some (.dK kvs) ∧ MkOk mk ∧
  AllB (Stnd H kvs mk S) 0 b ∧ (∀ s ∈ b, NestOk 5 s) ∧ sizeB b ≤ 1000 ∧ ∀ H' p, Same H H' → TD H' (.ref p) (.tuple [.int g, .tuple (fixB mk S 0 b)]) → Q (.ref p) H'
theorem ok_rebuilt {f fR fP : Addr} {fd dR dP : FuncData} (F : Fun K "rebuilt" "rebuilt" s_rebuilt f fd)
    (DR : Df K mg "_rebuilt_rows" s__rebuilt_rows ["rows", "standing"] fR dR) (GR : FnOk P w K mg base CX0 7 fR dR ["rows", "standing"] (spRb 5))
    (DP : Df K mg "placed_block" s_placed ["block", "first"] fP dP) (GP : FnOk P w K mg base CX0 14 fP dP ["block", "first"] (spPB 5)) : FnOk P w K mg base CX0 15 f fd ["program", "standing"] spReb := by
  refine F.ok sc_rebuilt (fun vs H Q E ⟨v, g, D, kvs, b, mk, S, ev, _⟩ => by rw [ev]; rfl) (fun cdv A outer s0 H vs Q E hr ⟨v, g, D, kvs, b, mk, S, ev, td, gD, hm, hall, nest, hz, q⟩ => ?_)
  subst ev
  have hr7 : Room 7 _ := hr.mono (by decide)
  refine ⟨_, (pss_one (ps_ret (pe_tup (pa_cons (pe_ix ix_tup (pv 0) pe_int (fun _ _ => rfl)) (pa_cons (pe_call GR hr7 (by rfl) DR.m DR.F.kp DR.b .nil pass0 (pa_cons (pe_call GP hr (by rfl) DP.m DP.F.kp DP.b .nil pass0 (pa_cons (pe_ix ix_tup (pv 0) pe_int (fun _ _ => rfl)) (pa_cons pe_int pa_nil))) (pa_cons (pv 1) pa_nil))) pa_nil))))), ?_⟩
  obtain ⟨r0, xs, rfl, gr0, e0⟩ := td_tup td
  obtain ⟨v1, ys, rfl, d1, e1⟩ := tds_cons e0
  cases d1
  obtain ⟨v2, rfl, d2⟩ := tds1 e1
  refine ⟨_, rfl, r0, _, _, _, rfl, rfl, SqT.of gr0, atI_nat (j := 0) rfl, _, rfl, r0, _, _, _, rfl, rfl, SqT.of gr0, atI_nat (j := 1) rfl, v2, 0, b, rfl, d2, nest, hz, fun H1 R s1 hR => ?_⟩
  refine ⟨_, rfl, R, D, kvs, b, 0, mk, S, rfl, RowsAt.ch 6 _ _ _ _ _ _ _ _ (Ch.refl [] _) (fun a g _ => ⟨List.not_mem_nil, trivial⟩) hR, s1 _ _ gD, hm, AllB.imp (Stnd.same s1) _ _ hall, nest, hz, fun H2 p s2 td2 => ⟨line1000 (Nat.le_of_ble_eq_true rfl), fun t nt => ?_⟩⟩
  have s3 := Same.up (o := HO.tup [V.int g, V.ref p]) nt
  exact q _ t (Same.trans s1 (Same.trans s2 s3)) (.tup upd_same (.cons (.int g) (.cons (TD.ch (Ch.same (S := []) s3) _ _ td2) .nil)))
end
end G

set_option Elab.async false
set_option linter.all false
set_option maxRecDepth 100000
set_option maxHeartbeats 4000000
/-! is_integer; NoPlace; statement_at. -/
namespace G
open PySem PySem.Spec PyProof.Rows L2 StX
/-- is x an int that is no bool: r -/
def IntQ (K : PySem.W.Frag) (H : Hp) (x : V) (r : Bool) : Prop := ∃ (t : Value) (b c : Bool), TyX K H x t ∧ PySem.W.kitOne K t (.type "int") = some b ∧ (b = true → PySem.W.kitOne K t (.type "bool") = some c) ∧ r = (b && !c) ∧ (r = true → ∃ i, x = .int i)
theorem intQ_int {K : PySem.W.Frag} {H : Hp} (i : Int) : IntQ K H (.int i) true := ⟨.type "int", true, false, .base (.int i), kit_ty (by decide +kernel), fun _ => kit_ty (by decide +kernel), rfl, fun _ => ⟨i, rfl⟩⟩
theorem intQ_bl {K : PySem.W.Frag} {H : Hp} (b : Bool) : IntQ K H (.bl b) false := ⟨.type "bool", true, true, .base (.bl b), kit_ty (by decide +kernel), (fun _ => kit_ty (by decide +kernel)), rfl, (fun z => nomatch z)⟩
theorem intQ_no {K : PySem.W.Frag} {H : Hp} {x : V} {n : String} (t : TyX K H x (.type n)) (h : kitB n "int" = some false) : IntQ K H x false := ⟨.type n, false, false, t, kit_ty h, (fun z => nomatch z), rfl, (fun z => nomatch z)⟩
section
variable {P : Program} {w : World} {K : PySem.W.Frag} {mg : Str → Option Value} {base : Heap}
abbrev s_is_integer : Stmt := top 6
abbrev n_is_integer : List Str := ["value"]
theorem sc_is_integer : FnScope n_is_integer ["value"] (defScope s_is_integer) := ⟨rfl, rfl, rfl, by decide +kernel, rfl, by decide +kernel, by decide +kernel⟩
def spIn (K : PySem.W.Frag) : Sp := fun vs H Q _ => ∃ x r, vs = [x] ∧ IntQ K H x r ∧ Q (.bl r) H
theorem ok_int {f : Addr} {fd : FuncData} (F : Fun K "is_integer" "is_integer" s_is_integer f fd) (z_isi : mg "isinstance" = none) (z_int : mg "int" = none) (z_bool : mg "bool" = none) : FnOk P w K mg base CX0 1 f fd ["value"] (spIn K) := by
  refine F.ok sc_is_integer (fun vs H Q E ⟨x, r, ev, _⟩ => by rw [ev]; rfl) (fun cdv A outer s H vs Q E hr ⟨x, r, ev, ⟨t, b, c, ty, k1, k2, er, _⟩, q⟩ => ?_)
  subst ev
  refine ⟨_, (pss_one (ps_ret (pe_and (pe_callB (show CallR _ (.builtin "isinstance") (rIsi K) from call_isi) (by rfl) z_isi (by decide +kernel) (pa_cons (pv 0) (pa_cons (pe_bltn (v := .ty "int") (by rfl) z_int rfl rfl) pa_nil))) (pe_one (pe_not (pe_callB (show CallR _ (.builtin "isinstance") (rIsi K) from call_isi) (by rfl) z_isi (by decide +kernel) (pa_cons (pv 0) (pa_cons (pe_bltn (v := .ty "bool") (by rfl) z_bool rfl rfl) pa_nil)))))))), ?_⟩
  refine ⟨_, rfl, _, _, _, _, b, rfl, .ty "int", ty, k1, _, rfl, ?_⟩
  cases b with
  | false =>
    subst er
    exact q
  | true =>
    refine iteT ⟨_, rfl, _, _, _, _, c, rfl, .ty "bool", ty, k2 rfl, _, rfl, ?_⟩
    subst er
    exact q
/-! ### an error over another error, with one field -/
/-- the class of such an error -/
structure NPx (P : Program) (w : World) (K : PySem.W.Frag) (mg : Str → Option Value) (base : Heap) (CN : Addr) : Prop where
  ex : ∃ fI fd, EM K CN fI ∧ FnOk P w K mg base CX0 1 fI fd ["self", "place"] (spI1 K "place") ∧ Binds K fd ["self", "place"] []
  es : ES K CN "place"
  nf : PySem.W.findIn K (.ref CN) "place" = some none
  mg : mg "NoPlace" = some (.ref CN)
  ty : PySem.W.typeIn K (.ref CN) = some (.type "type")
def StopV (CN : Addr) (E : XK) (H : Hp) (x : V) : Prop := ∀ H' d, Same H H' → H' d = some (.xd [("place", x)]) → E (.ref CN) (some d) H'
theorem StopV.mono {CS : Addr} {E : XK} {H H' : Hp} {x : V} (h : StopV CS E H x) (s : Same H H') : StopV CS E H' x := fun H2 d t e => h H2 d (s.trans t) e
theorem stopV_read {CS : Addr} {E : XK} {H : Hp} {x : V} {a : Addr} (T : ES K CS "place") (h : StopV CS E H x) (na : H a = none) :
    spI1 K "place" [.ref a, x] (upd H a (exo a CS none)) (fun v H2 => v = .non ∧ ∃ (d : Addr) (fs : List (Str × V)), H2 a = some (exo a CS (some d)) ∧ H2 d = some (exd d fs) ∧ H d = none ∧ E (.ref CS) (some d) (upd (del H2 a) d (.xd fs))) (fun _ _ _ => False) := by
  refine ⟨a, CS, x, rfl, T, upd_same, fun dx nd ne => ⟨rfl, dx, [("place", x)], upd_same, by rw [upd_ne ne, upd_same], ?_, ?_⟩⟩
  · rw [upd_ne ne] at nd
    exact nd
  · refine h _ dx (fun b o e => ?_) upd_same
    have nb : b ≠ a := ne_of_none e na
    have nx : b ≠ dx := fun z => by rw [z] at e; rw [upd_ne ne, e] at nd; cases nd
    rw [upd_ne nx, del_ne nb, upd_ne nb, upd_ne nx, upd_ne nb]
    exact e
abbrev s_ninit : Stmt := inClass (top 3) 0
theorem sc_ninit : FnScope ["self", "place"] ["self", "place"] (defScope s_ninit) := ⟨rfl, rfl, rfl, by decide +kernel, rfl, by decide +kernel, by decide +kernel⟩
theorem ok_ninit {fI : Addr} {fd : FuncData} (F : Fun K "__init__" "NoPlace.__init__" s_ninit fI fd) : FnOk P w K mg base CX0 1 fI fd ["self", "place"] (spI1 K "place") := by
  refine F.ok sc_ninit (fun vs H Q E ⟨a, C, v, ev, _⟩ => by rw [ev]; rfl) (fun cdv A outer s H vs Q E hr ⟨a, C, v, ev, T, ea, q⟩ => ⟨_, pss_one (ps_os1 (pv 0) (pv 1)), ?_⟩)
  subst ev
  exact ⟨v, rfl, .ref a, rfl, a, C, rfl, T, ea, q⟩
abbrev s_statement_at : Stmt := top 15
abbrev n_statement_at : List Str := ["program", "place", "rows"]
theorem sc_statement_at : FnScope n_statement_at ["program", "place"] (defScope s_statement_at) := ⟨rfl, rfl, rfl, by decide +kernel, rfl, by decide +kernel, by decide +kernel⟩
/-- the statement at this place on paper, or none -/
def atPl (b : List Sta) (x : V) : Option Sta := match x with
  | .int i => if 0 ≤ i ∧ i < ((rowsP 0 b).length : Int) then ((rowsP 0 b)[i.toNat]?).map (·.2) else none
  | _ => none
def spSA (K : PySem.W.Frag) (CN : Addr) : Sp := fun vs H Q E => ∃ (v : V) (g : Int) (b : List Sta) (x : V) (r : Bool), vs = [v, x] ∧ TD H v (.tuple [.int g, partD b]) ∧ (∀ s ∈ b, NestOk 5 s) ∧ sizeB b ≤ 10000 ∧ (∀ H', Same H H' → IntQ K H' x r) ∧ (r = false → atPl b x = none) ∧
  (∀ s, atPl b x = some s → ∀ H' u, Same H H' → TD H' u s.data → Q u H') ∧ (atPl b x = none → StopV CN E H x)
theorem ok_sa {f fR fI : Addr} {fd dR dI : FuncData} {CN : Addr} (F : Fun K "statement_at" "statement_at" s_statement_at f fd) (z_len : mg "len" = none) (N : NPx P w K mg base CN)
    (DR : Df K mg "rows_of" s_rows_of ["block", "depth"] fR dR) (GR : FnOk P w K mg base CX0 7 fR dR ["block", "depth"] (spRO 5)) (DI : Df K mg "is_integer" s_is_integer ["value"] fI dI) (GI : FnOk P w K mg base CX0 1 fI dI ["value"] (spIn K)) :
    FnOk P w K mg base (L2.CX P w) 8 f fd ["program", "place"] (spSA K CN) := by
  refine F.okX sc_statement_at (fun vs H Q E ⟨v, g, b, x, r, ev, _⟩ => by rw [ev]; rfl) (fun cdv A outer s H vs Q E hr ⟨v, g, b, x, r, ev, td, ok, hz, hx, hn, q1, q2⟩ => ?_)
  subst ev
  have hr1 : Room 1 _ := hr.mono (by decide)
  have hr2 : Room 2 _ := hr.mono (by decide)
  obtain ⟨fN, dN, MN, GN, BN⟩ := N.ex
  refine ⟨_, (pss_cons (ps_set (i := 2) sc_statement_at.nd rfl (.inl rfl) (pe_call GR hr (by rfl) DR.m DR.F.kp DR.b .nil pass0 (pa_cons (pe_ix ix_tup (pv 0) pe_int (fun _ _ => rfl)) (pa_cons pe_int pa_nil))))
      (pss_cons (ps_if (PW.pt (pw_or (pt_not (pt_val (pe_call GI hr1 (by rfl) DI.m DI.F.kp DI.b .nil pass0 (pa_cons (pv 1) pa_nil)))) (pw_or1 (pt_not (pt_chain op_le op_lt pe_int (pv 1) (pe_callB call_len_seq (by rfl) z_len (by decide +kernel) (pa_cons (pv 2) pa_nil)))))))
      (pss_one (ps_raise rfl (takes_of rfl rfl rfl rfl) (pmk_E MN (raises_own N.es.c.sb N.ty) GN hr2 BN pass0 rfl N.mg (pa_cons (pv 1) pa_nil))))
      pss_nil)
      (pss_one (ps_ret (pe_ix ix_tup (pe_ix ix_list (pv 2) (pv 1) (fun _ _ => rfl)) pe_int (fun _ _ => rfl)))))), ?_⟩
  obtain ⟨r0, xs, rfl, gr0, e0⟩ := td_tup td
  obtain ⟨v1, ys, rfl, d1, e1⟩ := tds_cons e0
  cases d1
  obtain ⟨v2, rfl, d2⟩ := tds1 e1
  refine ⟨_, rfl, r0, _, _, _, rfl, rfl, SqT.of gr0, atI_nat (j := 1) rfl, v2, b, 0, rfl, d2, ok, hz, fun H2 pl zs s2 np gp tdz => ?_⟩
  have lz : zs.length = (rowsP 0 b).length := by rw [tdz.len, List.length_map]
  have iq := hx H2 s2
  refine ⟨_, rfl, _, r, rfl, iq, _, rfl, ?_⟩
  obtain ⟨_, _, _, _, _, _, _, iv⟩ := iq
  cases r with
  | false =>
    exact iteT ⟨_, rfl, Nat.le_of_ble_eq_true rfl, fun a na => stopV_read N.es ((q2 (hn rfl)).mono s2) na⟩
  | true =>
    obtain ⟨i, rfl⟩ := iv rfl
    refine iteF ⟨_, rfl, _, _, rfl, rfl, _, rfl, ?_⟩
    by_cases c0 : 0 ≤ i
    · rw [decide_eq_true c0]
      refine iteT ⟨_, rfl, _, _, rfl, .inl (SqL.of gp), _, _, rfl, rfl, _, rfl, ?_⟩
      by_cases c1 : i < (zs.length : Int)
      · rw [decide_eq_true c1]
        have c2 : i.toNat < zs.length := by omega
        have ei : (i.toNat : Int) = i := Int.toNat_of_nonneg c0
        refine iteF ⟨_, rfl, _, rfl, pl, zs, i, zs[i.toNat], rfl, rfl, SqL.of gp, (show atI zs i = some zs[i.toNat] from by have z := atI_nat (List.getElem?_eq_getElem c2); rw [ei] at z; exact z), ?_⟩
        obtain ⟨d, hd, tdv⟩ := tdz.at (List.getElem?_eq_getElem c2)
        rw [List.getElem?_map] at hd
        obtain ⟨p, hp, rfl⟩ := Option.map_eq_some_iff.mp hd
        obtain ⟨tx, xs2, etx, gtx, ex⟩ := td_tup tdv
        obtain ⟨u1, xs3, rfl, du1, ex2⟩ := tds_cons ex
        obtain ⟨u2, rfl, du2⟩ := tds1 ex2
        rw [etx]
        refine ⟨_, _, _, _, rfl, rfl, SqT.of gtx, atI_nat (j := 1) rfl, q1 p.2 ?_ _ _ s2 du2⟩
        show (if 0 ≤ i ∧ i < ((rowsP 0 b).length : Int) then ((rowsP 0 b)[i.toNat]?).map (·.2) else none) = some p.2
        rw [if_pos ⟨c0, by omega⟩, hp]
        rfl
      · rw [decide_eq_false c1]
        refine iteT ⟨_, rfl, Nat.le_of_ble_eq_true rfl, fun a na => stopV_read N.es ((q2 ?_).mono s2) na⟩
        show (if 0 ≤ i ∧ i < ((rowsP 0 b).length : Int) then ((rowsP 0 b)[i.toNat]?).map (·.2) else none) = none
        rw [if_neg (by omega)]
    · rw [decide_eq_false c0]
      refine iteF ?_
      refine ⟨_, rfl, iteT ⟨_, rfl, Nat.le_of_ble_eq_true rfl, fun a na => stopV_read N.es ((q2 ?_).mono s2) na⟩⟩
      show (if 0 ≤ i ∧ i < ((rowsP 0 b).length : Int) then ((rowsP 0 b)[i.toNat]?).map (·.2) else none) = none
      rw [if_neg (by omega)]
end
end G

set_option Elab.async false
set_option linter.all false
set_option maxRecDepth 100000
set_option maxHeartbeats 4000000
/-! Fix.applied. -/
namespace G
open PySem PySem.Spec PyProof.Rows L2 StX
theorem passE {X : Cx} : Passes (L2.CX X.prog X.w) X (fun _ _ _ => False) := fun _ _ _ _ _ _ _ ⟨_, _, _, _, _, _, _, _, _, _, _, _, h⟩ => h.elim
/-- the places of a program -/
def PlsOk (pls : List Sta → List Int) : Prop := ∀ b i, i ∈ pls b → 0 ≤ i ∧ i < ((rowsP 0 b).length : Int)
def spKn (pls : List Sta → List Int) : Sp := fun vs H Q _ => ∃ (x v : V) (g : Int) (b : List Sta), vs = [x, v] ∧ TD H v (.tuple [.int g, partD b]) ∧ (∀ s ∈ b, NestOk 5 s) ∧ sizeB b ≤ 1000 ∧
  ∀ (H' : Hp) (p : Addr), Same H H' → H' p = some (.tup ((pls b).map V.int)) → Q (.ref p) H'
def plsK (b : List Sta) : List Int := placesW "make" 0 (rowsP 0 b)
def plsS (b : List Sta) : List Int := placesW "weak" 0 (rowsP 0 b)
def plsF (_ : List Sta) : List Int := []
theorem placesW_bnd (w : Str) : ∀ (l : List (Nat × Sta)) (k : Nat) (i : Int), i ∈ placesW w k l → (k : Int) ≤ i ∧ i < ((k + l.length : Nat) : Int)
  | [], k, i, h => nomatch h
  | p :: r, k, i, h => by
    have ih := placesW_bnd w r (k + 1) i
    have e : ((k + (p :: r).length : Nat) : Int) = ((k + 1 + r.length : Nat) : Int) := by rw [List.length_cons]; omega
    rw [e]
    have h : i ∈ (if headS p.2 = w then (k : Int) :: placesW w (k + 1) r else placesW w (k + 1) r) := h
    by_cases c : headS p.2 = w
    · rw [if_pos c] at h
      rcases List.mem_cons.mp h with rfl | h
      · omega
      · have := ih h
        omega
    · rw [if_neg c] at h
      have := ih h
      omega
theorem plsOk_K : PlsOk plsK := fun b i h => by
  have z := placesW_bnd _ _ _ _ h
  omega
theorem plsOk_S : PlsOk plsS := fun b i h => by
  have z := placesW_bnd _ _ _ _ h
  omega
theorem plsOk_F : PlsOk plsF := fun b i h => nomatch h
theorem kn_of {wd : Str} {pls : List Sta → List Int} (e : ∀ b, pls b = placesW wd 0 (rowsP 0 b)) : ∀ vs H Q E, spKn pls vs H Q E → spPO wd vs H Q E := fun vs H Q E ⟨x, v, g, b, ev, td, hn, hz, q⟩ =>
  ⟨x, v, ev, v, g, b, wd, rfl, td, hn, by omega, fun H' p s gp => q H' p s (by rw [e]; exact gp)⟩
theorem kn_of0 : ∀ vs H Q E, spKn plsF vs H Q E → spPO0 vs H Q E := fun vs H Q E ⟨x, v, g, b, ev, td, hn, hz, q⟩ => ⟨x, v, ev, fun H' p s gp => q H' p s gp⟩
/-- a class of fixes, its methods' promises -/
structure FixK (P : Program) (w : World) (K : PySem.W.Frag) (mg : Str → Option Value) (base : Heap) (C : Addr) (mk : Sta → PyData) (pls : List Sta → List Int) : Prop where
  cl : Cls K C
  ch : ∃ f fd, Meth K C "changed" f ∧ FnOk P w K mg base CX0 1 f fd ["self", "statement"] (spCh mk) ∧ Binds K fd ["self", "statement"] []
  po : ∃ f fd, Meth K C "places_of" f ∧ FnOk P w K mg base CX0 12 f fd ["self", "program"] (spKn pls) ∧ Binds K fd ["self", "program"] []
  ok : MkOk mk
  pls : PlsOk pls
theorem FixC.k {P : Program} {w : World} {K : PySem.W.Frag} {mg : Str → Option Value} {base : Heap} {x : Str} {C : Addr} {mk : Sta → PyData} {sp : Sp} {pls : List Sta → List Int} (X : FixC P w K mg base x C mk sp) (hm : MkOk mk) (hp : PlsOk pls) (h : ∀ vs H Q E, spKn pls vs H Q E → sp vs H Q E) : FixK P w K mg base C mk pls := by
  obtain ⟨f, fd, k, hk, M, F, B⟩ := X.po
  exact ⟨X.cl, X.ch, ⟨f, fd, M, (F.mono hk).imp h, B⟩, hm, hp⟩
/-- the first place that is no place of a fix -/
def badP (ks ps : List Int) : Option Int := ps.find? fun i => decide (i ∉ ks)
def spAp (CN C : Addr) (mk : Sta → PyData) (pls : List Sta → List Int) : Sp := fun vs H Q E => ∃ (a dx : Addr) (v : V) (t : Addr) (g : Int) (b : List Sta) (ps : List Int), vs = [.ref a, v, .ref t] ∧ H a = some (.ins C dx []) ∧ TD H v (.tuple [.int g, partD b]) ∧ (∀ s ∈ b, NestOk 5 s) ∧ sizeB b ≤ 1000 ∧
  H t = some (.tup (ps.map V.int)) ∧ ps.length ≤ 1000 ∧
  (badP (pls b) ps = none → ∀ H' p, Same H H' → TD H' (.ref p) (.tuple [.int g, .tuple (fixB mk (fun i => decide (i ∈ ps)) 0 b)]) → Q (.ref p) H') ∧
  (∀ i, badP (pls b) ps = some i → StopV CN E H (.int i))
theorem inV_int (i : Int) (ks : List Int) : inV (.int i) (ks.map V.int) = decide (i ∈ ks) := by
  induction ks with
  | nil => rfl
  | cons k r ih =>
    show (eqV (V.int k) (V.int i) || inV (.int i) (r.map V.int)) = _
    rw [ih]
    by_cases c : i = k
    · subst c
      rw [show eqV (V.int i) (V.int i) = true from decide_eq_true rfl, decide_eq_true (List.mem_cons_self ..)]
      rfl
    · rw [show eqV (V.int k) (V.int i) = false from decide_eq_false (fun z => c z.symm)]
      show decide (i ∈ r) = decide (i ∈ k :: r)
      by_cases m : i ∈ r
      · rw [decide_eq_true m, decide_eq_true (List.mem_cons_of_mem _ m)]
      · rw [decide_eq_false m, decide_eq_false (fun z => (List.mem_cons.mp z).elim c m)]
theorem flat_ints (ks : List Int) : (ks.map V.int).all flatV = true := by
  rw [List.all_map]
  exact List.all_eq_true.mpr fun _ _ => rfl
theorem bad_split (ks ps : List Int) : ∀ j, badP ks (ps.take j) = none ∨ badP ks ps = badP ks (ps.take j) := fun j => by
  unfold badP
  cases h : (ps.take j).find? (fun i => decide (i ∉ ks)) with
  | none => exact .inl rfl
  | some x =>
    right
    conv => lhs; rw [← List.take_append_drop j ps, List.find?_append, h]
    rfl
theorem atPl_some {b : List Sta} {i : Int} (h0 : 0 ≤ i) (h1 : i < ((rowsP 0 b).length : Int)) : ∃ s, atPl b (.int i) = some s := by
  have z : i.toNat < (rowsP 0 b).length := by omega
  refine ⟨((rowsP 0 b)[i.toNat]).2, ?_⟩
  show (if 0 ≤ i ∧ i < ((rowsP 0 b).length : Int) then ((rowsP 0 b)[i.toNat]?).map (·.2) else none) = _
  rw [if_pos ⟨h0, h1⟩, List.getElem?_eq_getElem z]
  rfl
section
variable {P : Program} {w : World} {K : PySem.W.Frag} {mg : Str → Option Value} {base : Heap}
abbrev s_applied : Stmt := inClass (top 20) 2
abbrev n_applied : List Str := ["self", "program", "places", "allowed", "place"]
theorem sc_applied : FnScope n_applied ["self", "program", "places"] (defScope s_applied) := ⟨rfl, rfl, rfl, by decide +kernel, rfl, by decide +kernel, by decide +kernel⟩
theorem ok_applied {f fB fA : Addr} {fd dB dA : FuncData} {CN C : Addr} {mk : Sta → PyData} {pls : List Sta → List Int} (F : Fun K "applied" "Fix.applied" s_applied f fd) (N : NPx P w K mg base CN) (Z : FixK P w K mg base C mk pls)
    (DB : Df K mg "rebuilt" s_rebuilt ["program", "standing"] fB dB) (GB : FnOk P w K mg base CX0 15 fB dB ["program", "standing"] spReb)
    (DA : Df K mg "statement_at" s_statement_at ["program", "place"] fA dA) (GA : FnOk P w K mg base (L2.CX P w) 8 fA dA ["program", "place"] (spSA K CN)) : FnOk P w K mg base (L2.CX P w) 16 f fd ["self", "program", "places"] (spAp CN C mk pls) := by
  refine F.okX sc_applied (fun vs H Q E ⟨a, dx, v, t, g, b, ps, ev, _⟩ => by rw [ev]; rfl) (fun cdv A outer s0 H vs Q E hr ⟨a, dx, v, t, g, b, ps, ev, ga, td, nest, hz, gt, lps, q1, q2⟩ => ?_)
  subst ev
  have hr1 : Room 1 _ := hr.mono (by decide)
  have hr2 : Room 2 _ := hr.mono (by decide)
  have hr8 : Room 8 _ := hr.mono (by decide)
  have hr12 : Room 12 _ := hr.mono (by decide)
  obtain ⟨fN, dN, MN, GN, BN⟩ := N.ex
  obtain ⟨fc, dc, Mc, Gc, Bc⟩ := Z.ch
  obtain ⟨fp, dp, Mp, Gp, Bp⟩ := Z.po
  refine ⟨_, (pss_cons (ps_set (i := 3) sc_applied.nd rfl (.inl rfl) (pe_meth (pv 0) Z.cl Mp Gp hr12 Bp .nil pass0 (pa_cons (pv 1) pa_nil)))
      (pss_cons (ps_for (passes_of rfl) rfl (pi_tup (pv 2)) (pg_name (i := 4) sc_applied.nd rfl (.inl rfl))
      (pss_one (ps_if (pt_cmpR op_notIn_seq (pv 4) (pv 3) (by rfl))
      (pss_one (ps_raise rfl (takes_of rfl rfl rfl rfl) (pmk_E MN (raises_own N.es.c.sb N.ty) GN hr2 BN pass0 rfl N.mg (pa_cons (pv 4) pa_nil))))
      pss_nil)))
      (pss_one (ps_ret (pe_call GB hr (by rfl) DB.m DB.F.kp DB.b .nil pass0 (pa_cons (pv 1) (pa_cons
        (pe_dc (own := [("place", 4)]) rfl sc_applied.nd (pi_tup (pv 2)) (blkOk_by (N := n_applied) (sc := defScope s_applied) (by decide +kernel)) (fun _ _ _ _ _ => (pg_name (i := 4) sc_applied.nd rfl (.inl rfl))) (fun _ _ _ _ _ => pts_nil) (fun _ _ _ _ _ => pv 4)
          (fun _ _ _ _ _ => (pe_meth (pv 0) Z.cl Mc Gc hr1 Bc .nil pass0 (pa_cons (pe_call GA hr8 (by rfl) DA.m DA.F.kp DA.b .nil passE (pa_cons (pv 1) (pa_cons (pv 4) pa_nil))) pa_nil)))) pa_nil))))))), ?_⟩
  refine ⟨_, rfl, a, dx, [], rfl, ga, rfl, v, rfl, _, v, g, b, rfl, td, nest, hz, fun H1 k s1 gk => ?_⟩
  refine ⟨.ref t, rfl, t, rfl, ⟨_, SqT.of (s1 _ _ gt)⟩, for_tup (xs := ps.map V.int) (fun j σ H' => H1 = H' ∧ badP (pls b) (ps.take j) = none ∧ ∃ x4, σ = [some (.ref a), some v, some (.ref t), some (.ref k), x4])
    ⟨rfl, rfl, none, rfl⟩ (fun j σ H' _ h => by rw [← h.1]; exact SqT.of (s1 _ _ gt)) ?_ ?_⟩
  · rintro j x σ H' hx ⟨rfl, hb, x4, rfl⟩
    rw [List.getElem?_map] at hx
    obtain ⟨i, hi, rfl⟩ := Option.map_eq_some_iff.mp hx
    have et : badP (pls b) (ps.take (j + 1)) = if i ∈ pls b then none else some i := by
      unfold badP at hb ⊢
      rw [take_snoc hi, List.find?_append, hb]
      by_cases c : i ∈ pls b
      · rw [if_pos c]
        simp [c]
      · rw [if_neg c]
        simp [c]
    refine ⟨_, rfl, _, rfl, k, _, rfl, .inr (SqT.of gk), rfl, flat_ints _, _, rfl, ?_⟩
    rw [inV_int]
    by_cases c : i ∈ pls b
    · rw [decide_eq_true c]
      rw [if_pos c] at et
      exact iteF ⟨rfl, et, _, rfl⟩
    · rw [decide_eq_false c]
      rw [if_neg c] at et
      refine iteT ⟨_, rfl, Nat.le_of_ble_eq_true rfl, fun a2 na => stopV_read N.es ((q2 i ?_).mono s1) na⟩
      rcases bad_split (pls b) ps (j + 1) with z | z
      · rw [et] at z; cases z
      · rw [z, et]
  · rintro σ H' ⟨rfl, hb, x4, rfl⟩
    rw [List.length_map, List.take_length] at hb
    have hin : ∀ i ∈ ps, i ∈ pls b := fun i hi => by
      have z := List.find?_eq_none.mp hb i hi
      simpa using z
    have atS : ∀ i ∈ ps, ∃ s, atPl b (.int i) = some s := fun i hi => by
      obtain ⟨h0, h1⟩ := Z.pls b i (hin i hi)
      exact atPl_some h0 h1
    refine ⟨v, rfl, .ref t, rfl, t, rfl, ⟨_, SqT.of (s1 _ _ gt)⟩, fun D nD => ?_⟩
    refine dc_tup (xs := ps.map V.int) (fun i H2 => Same H1 H2 ∧ ∃ kvs : List (Key × V), H2 D = some (.dK kvs) ∧ kvs.length ≤ i ∧ ∀ y : Int, (y ∈ ps.take i → ∃ u s, atPl b (.int y) = some s ∧ valV kvs (.inl y) = some u ∧ TD H2 u (mk s)) ∧ (y ∉ ps.take i → valV kvs (.inl y) = none))
      ⟨Same.up nD, [], upd_same, Nat.le_refl _, fun y => ⟨(fun z => absurd z List.not_mem_nil), fun _ => rfl⟩⟩ (fun i H2 _ h => SqT.of (h.1 _ _ (s1 _ _ gt))) ?_ ?_
    · rintro i x H2 hx ⟨s2, kvs, gD, lk, hk⟩
      rw [List.getElem?_map] at hx
      obtain ⟨y, hy, rfl⟩ := Option.map_eq_some_iff.mp hx
      have hli : i < ps.length := (List.getElem?_eq_some_iff.mp hy).1
      obtain ⟨sy, hsy⟩ := atS y (List.mem_of_getElem? hy)
      have s12 := Same.trans s1 s2
      refine ⟨rfl, .int y, rfl, .ref a, rfl, a, dx, [], rfl, s12 _ _ ga, rfl, v, rfl, .int y, rfl, v, g, b, .int y, true, rfl, TD.ch (Ch.same (S := []) s12) _ _ td, nest, by omega, fun H' _ => intQ_int y, (fun z => nomatch z), fun s hs H3 u s3 tdu => ?_, fun z => by rw [hsy] at z; cases z⟩
      refine ⟨_, u, s, rfl, tdu, fun H4 u4 s4 td4 => ⟨kvs, .inl y, rfl, s4 _ _ (s3 _ _ gD), Nat.lt_of_le_of_lt lk (small1000 (by omega)), ?_⟩⟩
      have s24 := Same.trans s3 s4
      have c5 : Ch [D] H4 (upd H4 D (.dK (putK kvs (.inl y) u4))) := (Ch.refl _ _).put (by simp) (s4 _ _ (s3 _ _ gD)) (fun xs z => by cases z)
      refine ⟨Same.putN (Same.trans s2 s24) nD, _, upd_same, Nat.le_trans (DSub.putK_len kvs (.inl y) u4) (by omega), fun z => ?_⟩
      rw [valV_put, take_snoc hy]
      by_cases c : z = y
      · subst c
        rw [if_pos rfl]
        exact ⟨fun _ => ⟨u4, s, hs, rfl, TD.ch c5 _ _ td4⟩, fun h => absurd (List.mem_append_right _ (List.mem_singleton.mpr rfl)) h⟩
      · rw [if_neg (fun h : (Sum.inl z : Key) = Sum.inl y => c (by injection h))]
        refine ⟨fun h => ?_, fun h => (hk z).2 (fun m => h (List.mem_append_left _ m))⟩
        have h : z ∈ ps.take i := by
          rcases List.mem_append.mp h with h | h
          · exact h
          · exact absurd (List.mem_singleton.mp h) c
        obtain ⟨u5, s5, e5, e6, td6⟩ := (hk z).1 h
        exact ⟨u5, s5, e5, e6, TD.ch ((Ch.same s24).trans c5) _ _ td6⟩
    · rintro H2 ⟨s2, kvs, gD, lk, hk⟩
      rw [List.length_map, List.take_length] at hk
      have s12 := Same.trans s1 s2
      refine ⟨v, g, D, kvs, b, mk, fun i => decide (i ∈ ps), rfl, TD.ch (Ch.same (S := []) s12) _ _ td, gD, Z.ok, allB_rows b 0 0 fun i p hp => ?_, nest, hz, fun H3 p s3 td3 => q1 hb H3 p (Same.trans s12 s3) td3⟩
      have ea : atPl b (.int (0 + (i : Nat))) = some p.2 := by
        have hl : i < (rowsP 0 b).length := (List.getElem?_eq_some_iff.mp hp).1
        show (if 0 ≤ 0 + (i : Int) ∧ 0 + (i : Int) < ((rowsP 0 b).length : Int) then ((rowsP 0 b)[(0 + (i : Int)).toNat]?).map (·.2) else none) = some p.2
        rw [if_pos ⟨by omega, by omega⟩, show (0 + (i : Int)).toNat = i by omega, hp]
        rfl
      refine ⟨fun h => ?_, fun h => (hk _).2 (of_decide_eq_false h)⟩
      obtain ⟨u, s, e1, e2, t2⟩ := (hk _).1 (of_decide_eq_true h)
      rw [ea] at e1
      cases e1
      exact ⟨u, e2, t2⟩
end
end G

set_option Elab.async false
set_option linter.all false
set_option maxRecDepth 100000
set_option maxHeartbeats 4000000
/-! _law_count. -/
namespace G
open PySem PySem.Spec PyProof.Rows L2 StX
theorem sta2 (s : Sta) : ∃ w a ds, s.data = .tuple (.str w :: a :: ds) ∧ ((∃ ac, s = .act ac) ∧ inV (.str w) [.str "if", .str "repeat"] = false ∨ (partsOf s ≠ [] ∧ inV (.str w) [.str "if", .str "repeat"] = true ∧ ds = (partsOf s).map partD)) := by
  cases s with
  | act a => cases a <;> exact ⟨_, _, _, rfl, .inl ⟨⟨_, rfl⟩, by decide +kernel⟩⟩
  | cond t y n => exact ⟨_, _, _, rfl, .inr ⟨by simp [partsOf], by decide +kernel, rfl⟩⟩
  | rep k b => exact ⟨_, _, _, rfl, .inr ⟨by simp [partsOf], by decide +kernel, rfl⟩⟩
def szI (s : Sta) : Int := (s.size : Nat)
def szB (b : List Sta) : Int := (sizeB b : Nat)
theorem sum_szI : ∀ b : List Sta, (b.map szI).sum = szB b
  | [] => rfl
  | s :: r => by
    rw [List.map_cons, List.sum_cons, sum_szI r]
    show (s.size : Int) + (sizeB r : Nat) = ((s.size + sizeB r : Nat) : Int)
    omega
theorem sum_szB : ∀ b : List (List Sta), (b.map szB).sum = (sizeBs b : Nat)
  | [] => rfl
  | s :: r => by
    rw [List.map_cons, List.sum_cons, sum_szB r]
    show (sizeB s : Int) + (sizeBs r : Nat) = ((sizeB s + sizeBs r : Nat) : Int)
    omega
def spCt (d : Nat) : Sp := fun vs H Q _ => ∃ (v : V) (b : List Sta), vs = [v] ∧ TD H v (partD b) ∧ (∀ s ∈ b, NestOk d s) ∧ sizeB b ≤ 1000 ∧ ∀ H', Same H H' → Q (.int (szB b)) H'
def spCt' : Nat → Sp
  | 0 => fun _ _ _ _ => False
  | d + 1 => spCt d
section
variable {P : Program} {w : World} {K : PySem.W.Frag} {mg : Str → Option Value} {base : Heap}
abbrev s__law_count : Stmt := top 33
abbrev n__law_count : List Str := ["_law_block", "_law_row", "_law_inner"]
theorem sc__law_count : FnScope n__law_count ["_law_block"] (defScope s__law_count) := ⟨rfl, rfl, rfl, by decide +kernel, rfl, by decide +kernel, by decide +kernel⟩
abbrev oc_count : Scope := { kind := .function, names := [((".0" : Str), .local), ("_law_row", .cell), ("sum", .globalImplicit)], isGenerator := false, isCoroutine := false }
theorem ok_count {f fS : Addr} {fd dS : FuncData} {d k0 : Nat} (F : Fun K "_law_count" "_law_count" s__law_count f fd) (z_sum : mg "sum" = none)
    (mS : mg "_law_count" = some (.ref fS)) (kS : PySem.W.keepIn K (.ref fS) = true) (bS : Binds K dS ["_law_block"] []) (GS : FnOk P w K mg base CX0 k0 fS dS ["_law_block"] (spCt' d)) : FnOk P w K mg base CX0 (k0 + 1) f fd ["_law_block"] (spCt d) := by
  refine F.ok sc__law_count (fun vs H Q E ⟨v, b, ev, _⟩ => by rw [ev]; rfl) (fun cdv A outer s0 H vs Q E hr ⟨v, b, ev, td, nest, hz, q⟩ => ?_)
  subst ev
  refine ⟨_, (pss_one (ps_ret (pe_callB (cr_sum rfl) (by rfl) z_sum (by decide +kernel) (pa_cons (pe_lc (g := gName 1) (tt := tYes) (te := (tOp rAddE (tC (.int 1)) (tCB (rSum K) (tCons (tLc (iTup K (tSl (rSlA K) (tVar 1) (tPart (tC (.int 2))) tNoPart)) (gName 2) (tTest (tOp (rIn K false) (tOp (rIxT K) (tVar 1) (tC (.int 0))) (tLst (tCons (tC (.str "if")) (tCons (tC (.str "repeat")) tNil))))) (tCall (spCt' d) [] E0 (tCons (tVar 2) tNil)) [2]) tNil)))) (own := [("_law_row", 1)]) (by rfl) sc__law_count.nd (pi_tup (pv 0)) (blkOk_by (N := n__law_count) (sc := defScope s__law_count) (by decide +kernel)) (fun _ _ _ _ _ => (pg_name (i := 1) sc__law_count.nd rfl (.inr rfl))) (fun _ _ _ _ _ => pts_nil)
      (fun _ _ _ _ _ => (pe_op op_addE pe_int (pe_callB (cr_sum rfl) (by rfl) z_sum (by decide +kernel) (pa_cons (pe_lc (g := gName 2) (tt := tTest (tOp (rIn K false) (tOp (rIxT K) (tVar 1) (tC (.int 0))) (tLst (tCons (tC (.str "if")) (tCons (tC (.str "repeat")) tNil))))) (te := tCall (spCt' d) [] E0 (tCons (tVar 2) tNil)) (own := [("_law_inner", 2)]) (by rfl) sc__law_count.nd (pi_tup (pe_slice sl_tupA (pv 1) (po_some pe_int) po_none)) (blkOk_by (N := n__law_count) (sc := oc_count) (by decide +kernel)) (fun _ _ _ _ _ => (pg_name (i := 2) sc__law_count.nd rfl (.inl rfl))) (fun _ _ _ _ _ => pts_one (pt_cmpR op_in_seq (pe_ix ix_tup (pv 1) pe_int (fun _ _ => rfl)) (pe_lst (pa_cons pe_str (pa_cons pe_str pa_nil))) (by rfl))) (fun _ _ _ _ _ => (pe_call GS hr (by rfl) mS kS bS .nil pass0 (pa_cons (pv 2) pa_nil)))) pa_nil))))) pa_nil)))), ?_⟩
  obtain ⟨r0, xs, rfl, gr0, tds⟩ := td_tup td
  refine ⟨_, rfl, r0, rfl, ⟨_, SqT.of gr0⟩, fun D nD => ?_⟩
  have neD : r0 ≠ D := fun z => by rw [z, nD] at gr0; cases gr0
  have lb := len_size b
  refine lc_tup (xs := xs) (fun i H' => Ch [D] H H' ∧ H' D = some (.lst (((b.take i).map szI).map V.int))) ⟨(Ch.refl _ _).new nD, upd_same⟩ (fun i H' _ h => SqT.of (h.1.tu _ _ gr0)) ?_ ?_
  · rintro i x H2 hx ⟨c2, g2⟩
    obtain ⟨dt, edt, tdv⟩ := (TDs.ch c2 _ _ tds).at hx
    rw [blkData_eq, List.getElem?_map] at edt
    obtain ⟨s, hs, rfl⟩ := Option.map_eq_some_iff.mp edt
    have oks := nest s (List.mem_of_getElem? hs)
    have szs := size_mem (List.mem_of_getElem? hs)
    have li : i < b.length := (List.getElem?_eq_some_iff.mp hs).1
    obtain ⟨wd, av, ds, ed, kind⟩ := sta2 s
    rw [ed] at tdv
    obtain ⟨r, ys, rfl, gr, e0⟩ := td_tup tdv
    obtain ⟨v1, ys, rfl, d1, e1⟩ := tds_cons e0
    cases d1
    obtain ⟨v2, ys, rfl, d2, e2⟩ := tds_cons e1
    refine ⟨rfl, _, rfl, _, rfl, r, _, rfl, SqT.of gr, fun h => absurd h.1 (sIx2 _ _ _), fun _ p np => ?_⟩
    rw [cut2]
    have s3 := Same.up (o := HO.tup ys) np
    have gp : upd H2 p (HO.tup ys) p = some (.tup ys) := upd_same
    generalize upd H2 p (HO.tup ys) = H3 at s3 gp ⊢
    have gr3 := s3 _ _ gr
    have e3 := TDs.ch (Ch.same (S := []) s3) _ _ e2
    refine ⟨p, rfl, ⟨_, SqT.of gp⟩, fun D2 nD2 => ?_⟩
    have step : ∀ H4, Ch [D2] H3 H4 → ∃ acc, H4 D = some (.lst acc) ∧ acc.length < sizeLine ∧ Ch [D] H (upd H4 D (.lst (acc ++ [.int (szI s)]))) ∧ upd H4 D (.lst (acc ++ [.int (szI s)])) D = some (.lst (((b.take (i + 1)).map szI).map V.int)) := fun H4 c4 => by
      have s4 : Same H3 H4 := (c4.kp.fresh nD2).toSame
      have g4 := s4 _ _ (s3 _ _ g2)
      refine ⟨_, g4, small1000 (by rw [List.length_map, List.length_map, List.length_take]; omega), (c2.trans ((Ch.same s3).trans (Ch.same s4))).put (by simp) g4 (fun xs z => by cases z), ?_⟩
      rw [upd_same, take_snoc hs, List.map_append, List.map_append]
      rfl
    rcases kind with ⟨⟨ac, rfl⟩, hin⟩ | ⟨hp, hin, rfl⟩
    · refine lc_tup (xs := ys) (fun _ H4 => Ch [D2] H3 H4 ∧ H4 D2 = some (.lst [])) ⟨(Ch.refl _ _).new nD2, upd_same⟩ (fun _ H4 _ h => SqT.of (h.1.tu _ _ gp)) ?_ ?_
      · rintro j y H4 hy ⟨c4, g4⟩
        refine ⟨rfl, _, rfl, r, _, _, _, rfl, rfl, SqT.of (c4.tu _ _ gr3), atI_nat (j := 0) rfl, line1000 (Nat.le_of_ble_eq_true rfl), fun t0 n0 => ⟨t0, _, rfl, .inl (SqL.of upd_same), rfl, rfl, _, rfl, ?_⟩⟩
        show if inV (.str wd) [.str "if", .str "repeat"] = true then _ else _
        rw [hin]
        have s5 := Same.up (o := HO.lst [V.str "if", V.str "repeat"]) n0
        exact iteF ⟨c4.trans (Ch.same s5), s5 _ _ g4⟩
      · rintro H4 ⟨c4, g4⟩
        obtain ⟨acc, h1, h2, h3, h4⟩ := step H4 c4
        exact ⟨D2, [], rfl, SqL.of g4, _, _, rfl, rfl, fun z ez => ⟨acc, h1, h2, by rw [show z = szI (.act ac) from ez]; exact ⟨h3, h4⟩⟩⟩
    · refine lc_tup (xs := ys) (fun j H4 => Ch [D2] H3 H4 ∧ H4 D2 = some (.lst ((((partsOf s).take j).map szB).map V.int))) ⟨(Ch.refl _ _).new nD2, upd_same⟩ (fun _ H4 _ h => SqT.of (h.1.tu _ _ gp)) ?_ ?_
      · rintro j y H4 hy ⟨c4, g4⟩
        refine ⟨rfl, _, rfl, r, _, _, _, rfl, rfl, SqT.of (c4.tu _ _ gr3), atI_nat (j := 0) rfl, line1000 (Nat.le_of_ble_eq_true rfl), fun t0 n0 => ⟨t0, _, rfl, .inl (SqL.of upd_same), rfl, rfl, _, rfl, ?_⟩⟩
        show if inV (.str wd) [.str "if", .str "repeat"] = true then _ else _
        rw [hin]
        have s5 := Same.up (o := HO.lst [V.str "if", V.str "repeat"]) n0
        generalize upd H4 t0 (HO.lst [V.str "if", V.str "repeat"]) = H5 at s5 ⊢
        have c5 := c4.trans (Ch.same s5)
        obtain ⟨dp, edp, tdy⟩ := (TDs.ch c5 _ _ e3).at hy
        rw [List.getElem?_map] at edp
        obtain ⟨pb, hpb, rfl⟩ := Option.map_eq_some_iff.mp edp
        obtain ⟨d', rfl, okb, szb⟩ := parts_nest oks hpb
        refine iteT ⟨_, rfl, y, pb, rfl, tdy, okb, by omega, fun H6 s6 => ⟨_, s6 _ _ (s5 _ _ g4), small1000 ?_, ?_⟩⟩
        · have z3 : (partsOf s).length ≤ 2 := by cases s <;> simp [partsOf]
          rw [List.length_map, List.length_map, List.length_take]
          omega
        · refine ⟨(c5.trans (Ch.same s6)).put (by simp) (s6 _ _ (s5 _ _ g4)) (fun xs z => by cases z), ?_⟩
          rw [upd_same, take_snoc hpb, List.map_append, List.map_append]
          rfl
      · rintro H4 ⟨c4, g4⟩
        obtain ⟨acc, h1, h2, h3, h4⟩ := step H4 c4
        have lp : ys.length = (partsOf s).length := by rw [e2.len, List.length_map]
        rw [lp, List.take_length] at g4
        refine ⟨D2, _, rfl, SqL.of g4, _, _, rfl, rfl, fun z ez => ⟨acc, h1, h2, ?_⟩⟩
        have ez2 : z = szI s := by
          rw [ez, sum_szB]
          show (1 : Int) + (sizeBs (partsOf s) : Nat) = (s.size : Nat)
          rw [size_blocks s]
          omega
        rw [ez2]
        exact ⟨h3, h4⟩
  · rintro H2 ⟨c2, g2⟩
    have lx : xs.length = b.length := by rw [tds.len, blkData_eq, List.length_map]
    rw [lx, List.take_length] at g2
    refine ⟨D, _, rfl, SqL.of g2, ?_⟩
    rw [sum_szI]
    exact q _ (c2.kp.fresh nD).toSame
theorem ok_countAll {f : Addr} {fd : FuncData} (D : Df K mg "_law_count" s__law_count ["_law_block"] f fd) (z_sum : mg "sum" = none) : FnOk P w K mg base CX0 7 f fd ["_law_block"] (spCt 5) := by
  have Z : FnOk P w K mg base CX0 1 f fd ["_law_block"] (spCt' 0) := ⟨fun _ _ _ _ h => h.elim, fun _ _ _ _ _ _ _ _ _ _ _ _ _ h => h.elim⟩
  have B0 := ok_count (d := 0) D.F z_sum D.m D.F.kp D.b Z
  have B1 := ok_count (d := 1) D.F z_sum D.m D.F.kp D.b B0
  have B2 := ok_count (d := 2) D.F z_sum D.m D.F.kp D.b B1
  have B3 := ok_count (d := 3) D.F z_sum D.m D.F.kp D.b B2
  have B4 := ok_count (d := 4) D.F z_sum D.m D.F.kp D.b B3
  exact ok_count (d := 5) D.F z_sum D.m D.F.kp D.b B4
end
end G

set_option Elab.async false
set_option linter.all false
set_option maxRecDepth 100000
set_option maxHeartbeats 4000000
/-! _law_fixed. -/
namespace G
open PySem PySem.Spec PyProof.Rows L2 StX
abbrev inP (ps : List Int) : Int → Bool := fun i => decide (i ∈ ps)
def newD (mk : Sta → PyData) (S : Int → Bool) (pl : Int) (s : Sta) : PyData := if partsOf s = [] then s.data else .tuple (hd2 s ++ fixBs mk S (pl + 1) (partsOf s))
theorem fixS_new {mk : Sta → PyData} {S : Int → Bool} {pl : Int} {s : Sta} (h : S pl = false) : fixS mk S pl s = [newD mk S pl s] := by
  unfold newD
  by_cases c : partsOf s = []
  · rw [if_pos c]
    cases s with
    | act a => exact fixS_act h
    | cond t y n => cases c
    | rep k b => cases c
  · rw [if_neg c]
    exact fixS_not h c
def spFx (C : Addr) (mk : Sta → PyData) (d : Nat) : Sp := fun vs H Q _ => ∃ (a dx : Addr) (bv : V) (b : List Sta) (pl : Int) (t : Addr) (ps : List Int), vs = [.ref a, bv, .int pl, .ref t] ∧ H a = some (.ins C dx []) ∧ TD H bv (partD b) ∧ (∀ s ∈ b, NestOk d s) ∧ sizeB b ≤ 1000 ∧
  H t = some (.tup (ps.map V.int)) ∧ ∀ H' p, Same H H' → TD H' (.ref p) (.tuple (fixB mk (inP ps) pl b)) → Q (.ref p) H'
def spFx' (C : Addr) (mk : Sta → PyData) : Nat → Sp
  | 0 => fun _ _ _ _ => False
  | d + 1 => spFx C mk d
def twNew (C : Addr) (mk : Sta → PyData) (d : Nat) : TS := fun D σ H => ∃ (a dx r0 : Addr) (pl : Int) (t L : Addr) (row : V) (x6 x7 x8 x9 : Option V) (s : Sta) (ps : List Int), σ = [some (.ref a), some (.ref r0), some (.int pl), some (.ref t), some (.ref L), some row, some row, x7, x8, x9] ∧ H a = some (.ins C dx []) ∧
  H t = some (.tup (ps.map V.int)) ∧ TD H row s.data ∧ NestOk d s ∧ s.size ≤ 1000 ∧
  ∀ H' nv x7 x8 x9, Same H H' → TD H' nv (newD mk (inP ps) pl s) → D.nx [some (.ref a), some (.ref r0), some (.int pl), some (.ref t), some (.ref L), some row, some nv, x7, x8, x9] H'
def twAdd (C : Addr) (mk : Sta → PyData) : TE := fun σ H Q => ∃ (a dx : Addr) (pl : Int) (t : Addr) (row nv : V) (s : Sta) (ps : List Int), σ[0]? = some (some (.ref a)) ∧ σ[2]? = some (some (.int pl)) ∧ σ[3]? = some (some (.ref t)) ∧ σ[5]? = some (some row) ∧ σ[6]? = some (some nv) ∧ H a = some (.ins C dx []) ∧
  H t = some (.tup (ps.map V.int)) ∧ TD H row s.data ∧ TD H nv (newD mk (inP ps) pl s) ∧ ∀ H' q zs, Same H H' → H' q = some (.lst zs) → TDs H' zs (fixS mk (inP ps) pl s) → Q (.ref q) H'
section
variable {P : Program} {w : World} {K : PySem.W.Frag} {mg : Str → Option Value} {base : Heap}
abbrev s__law_fixed : Stmt := top 34
abbrev n__law_fixed : List Str := ["_law_fix", "_law_block", "_law_place", "_law_places", "_law_found", "_law_row", "_law_new", "_law_inner", "_law_at", "_law_part"]
abbrev p__law_fixed : List Str := ["_law_fix", "_law_block", "_law_place", "_law_places"]
theorem sc__law_fixed : FnScope n__law_fixed p__law_fixed (defScope s__law_fixed) := ⟨rfl, rfl, rfl, by decide +kernel, rfl, by decide +kernel, by decide +kernel⟩
theorem ok_fixed {f fS fT : Addr} {fd dS dT : FuncData} {C : Addr} {mk : Sta → PyData} {pls : List Sta → List Int} {d k0 : Nat} (hk0 : 7 ≤ k0) (hd5 : d ≤ 5) (F : Fun K "_law_fixed" "_law_fixed" s__law_fixed f fd) (z_tuple : mg "tuple" = none) (z_list : mg "list" = none) (Z : FixK P w K mg base C mk pls)
    (DT : Df K mg "_law_count" s__law_count ["_law_block"] fT dT) (GT : FnOk P w K mg base CX0 7 fT dT ["_law_block"] (spCt 5))
    (mS : mg "_law_fixed" = some (.ref fS)) (kS : PySem.W.keepIn K (.ref fS) = true) (bS : Binds K dS p__law_fixed []) (GS : FnOk P w K mg base CX0 k0 fS dS p__law_fixed (spFx' C mk d)) : FnOk P w K mg base CX0 (k0 + 1) f fd p__law_fixed (spFx C mk d) := by
  refine F.ok sc__law_fixed (fun vs H Q E ⟨a, dx, bv, b, pl, t, ps, ev, _⟩ => by rw [ev]; rfl) (fun cdv A outer s0 H vs Q E hr ⟨a, dx, bv, b, pl, t, ps, ev, ga, td, nest, hz, gt, q⟩ => ?_)
  subst ev
  have hr1 : Room 1 _ := hr.mono (by omega)
  have hr7 : Room 7 _ := hr.mono hk0
  obtain ⟨fc, dc, Mc, Gc, Bc⟩ := Z.ch
  refine ⟨_, (pss_cons (ps_set (i := 4) sc__law_fixed.nd rfl (.inl rfl) (pe_lst pa_nil))
      (pss_cons (ps_for PassesOwn.never rfl (pi_tup (pv 1)) (pg_name (i := 5) sc__law_fixed.nd rfl (.inl rfl))
      (pss_cons (ps_set (i := 6) sc__law_fixed.nd rfl (.inl rfl) (pv 5))
      (pss_cons (ps_weak (tw := twNew C mk d) (ps_if (pt_cmpR op_in_seq (pe_ix ix_tup (pv 5) pe_int (fun _ _ => rfl)) (pe_lst (pa_cons pe_str (pa_cons pe_str pa_nil))) (by rfl))
      (pss_cons (ps_par (i := 7) (j := 8) (by rfl) sc__law_fixed.nd rfl rfl (by decide) rfl rfl (pa_cons (pe_lst pa_nil) (pa_cons (pe_op op_addE (pv 2) pe_int) pa_nil)) (by rfl))
      (pss_cons (ps_for PassesOwn.never rfl (pi_tup (pe_slice sl_tupA (pv 5) (po_some pe_int) po_none)) (pg_name (i := 9) sc__law_fixed.nd rfl (.inl rfl))
      (pss_cons (ps_expr (pe_bm PySem.F.plainAttrs_list PySem.F.slot_list_append PySem.F.type_list_append mt_append (pv 7) (pa_cons (pe_call GS hr (by rfl) mS kS bS .nil pass0 (pa_cons (pv 0) (pa_cons (pv 9) (pa_cons (pv 8) (pa_cons (pv 3) pa_nil))))) pa_nil)))
      (pss_one (ps_set (i := 8) sc__law_fixed.nd rfl (.inl rfl) (pe_op op_addE (pv 8) (pe_call GT hr7 (by rfl) DT.m DT.F.kp DT.b .nil pass0 (pa_cons (pv 9) pa_nil)))))))
      (pss_one (ps_set (i := 6) sc__law_fixed.nd rfl (.inl rfl) (pe_op op_catA (pe_slice sl_tupA (pv 5) po_none (po_some pe_int)) (pe_callTy call_tuple_of (by rfl) z_tuple (by decide +kernel) (pa_cons (pv 7) pa_nil)))))))
      pss_nil) ?W1)
      (pss_cons (ps_set (i := 4) sc__law_fixed.nd rfl (.inl rfl) (pe_op op_cat (pv 4) (pe_cons (tw := twAdd C mk) (pe_ifExp (pt_cmpR op_in_seq (pv 2) (pv 3) (by rfl)) (pe_callTy call_list_of (by rfl) z_list (by decide +kernel) (pa_cons (pe_meth (pv 0) Z.cl Mc Gc hr1 Bc .nil pass0 (pa_cons (pv 5) pa_nil)) pa_nil)) (pe_lst (pa_cons (pv 6) pa_nil))) ?W2)))
      (pss_one (ps_set (i := 2) sc__law_fixed.nd rfl (.inl rfl) (pe_op op_addE (pv 2) (pe_call GT hr7 (by rfl) DT.m DT.F.kp DT.b .nil pass0 (pa_cons (pe_tup (pa_cons (pv 5) pa_nil)) pa_nil)))))))))
      (pss_one (ps_ret (pe_callTy call_tuple_of (by rfl) z_tuple (by decide +kernel) (pa_cons (pv 4) pa_nil)))))), ?_⟩
  case W2 =>
    rintro σ H1 Q1 ⟨a, dx, pl, t, row, nv, s, ps, e0, e2, e3, e5, e6, ga, gt, tdr, tdn, q⟩
    refine ⟨_, e2, _, e3, t, _, rfl, .inr (SqT.of gt), rfl, flat_ints _, _, rfl, ?_⟩
    rw [inV_int]
    by_cases c : pl ∈ ps
    · rw [decide_eq_true c]
      have eS : inP ps pl = true := decide_eq_true c
      refine iteT ⟨_, e0, a, dx, [], rfl, ga, rfl, _, e5, _, row, s, rfl, tdr, fun H2 u s2 tdu => ?_⟩
      rw [(Z.ok s).1] at tdu
      obtain ⟨z, zs, rfl, gz, tz⟩ := td_tup tdu
      refine ⟨z, zs, rfl, .inr (SqT.of gz), fun l nl => ?_⟩
      have s3 := Same.up (o := HO.lst zs) nl
      refine q _ l zs (Same.trans s2 s3) upd_same ?_
      rw [fixS_in eS]
      exact TDs.ch (Ch.same (S := []) s3) _ _ tz
    · rw [decide_eq_false c]
      have eS : inP ps pl = false := decide_eq_false c
      refine iteF ⟨_, e6, Nat.le_of_ble_eq_true rfl, fun l nl => ?_⟩
      have s3 := Same.up (o := HO.lst [nv]) nl
      refine q _ l _ s3 upd_same ?_
      rw [fixS_new eS]
      exact .cons (TD.ch (Ch.same (S := []) s3) _ _ tdn) .nil
  case W1 =>
    rintro Dd σ H1 ⟨a, dx, r0, pl, t, L, row, x6, x7, x8, x9, s, ps, rfl, ga, gt, tdr, nst, szs, q⟩
    obtain ⟨wd, av, ds, ed, kind⟩ := sta2 s
    have tdr0 := tdr
    rw [ed] at tdr
    obtain ⟨r, ys, rfl, gr, e0⟩ := td_tup tdr
    obtain ⟨v1, ys, rfl, d1, e1⟩ := tds_cons e0
    cases d1
    obtain ⟨v2, ys, rfl, d2, e2⟩ := tds_cons e1
    refine ⟨_, rfl, r, _, _, _, rfl, rfl, SqT.of gr, atI_nat (j := 0) rfl, line1000 (Nat.le_of_ble_eq_true rfl), fun t0 n0 => ⟨t0, _, rfl, .inl (SqL.of upd_same), rfl, rfl, _, rfl, ?_⟩⟩
    show if inV (.str wd) [.str "if", .str "repeat"] = true then _ else _
    have s2 := Same.up (o := HO.lst [V.str "if", V.str "repeat"]) n0
    generalize upd H1 t0 (HO.lst [V.str "if", V.str "repeat"]) = H2 at s2 ⊢
    rcases kind with ⟨⟨ac, rfl⟩, hin⟩ | ⟨hp, hin, rfl⟩
    · rw [hin]
      exact iteF (q H2 _ _ _ _ s2 (TD.ch (Ch.same (S := []) s2) _ _ tdr0))
    · rw [hin]
      refine iteT ⟨Nat.zero_le _, fun I nI => ⟨.int pl, rfl, pl, 1, rfl, rfl, fun at1 eat => ?_⟩⟩
      have nI1 : H1 I = none := s2.free nI
      have s3 := Same.up (o := HO.lst []) nI
      have gI3 : upd H2 I (HO.lst []) I = some (.lst []) := upd_same
      generalize upd H2 I (HO.lst []) = H3 at s3 gI3 ⊢
      have s13 := Same.trans s2 s3
      refine ⟨_, _, rfl, _, rfl, _, rfl, r, _, rfl, SqT.of (s13 _ _ gr), fun h => absurd h.1 (sIx2 _ _ _), fun _ p np => ?_⟩
      rw [cut2]
      have s4 := Same.up (o := HO.tup ys) np
      have gp : upd H3 p (HO.tup ys) p = some (.tup ys) := upd_same
      generalize upd H3 p (HO.tup ys) = H4 at s4 gp ⊢
      have s14 := Same.trans s13 s4
      have gI4 := s4 _ _ gI3
      have lys : ys.length = (partsOf s).length := by rw [e2.len, List.length_map]
      have lp2 : (partsOf s).length ≤ 2 := by cases s <;> simp [partsOf]
      have e4 := TDs.ch (Ch.same (S := []) s14) _ _ e2
      refine ⟨p, rfl, ⟨_, SqT.of gp⟩, for_tup (xs := ys) (fun j σ H' => Ch [I] H4 H' ∧ ∃ (acc2 : List V) (z : Int) (x9 : Option V), H' I = some (.lst acc2) ∧ z = pl + 1 + (sizeBs ((partsOf s).take j) : Nat) ∧ TDs H' acc2 (fixBs mk (inP ps) (pl + 1) ((partsOf s).take j)) ∧ σ = [some (.ref a), some (.ref r0), some (.int pl), some (.ref t), some (.ref L), some (.ref r), some (.ref r), some (.ref I), some (.int z), x9])
        ⟨Ch.refl _ _, [], at1, x9, gI4, by rw [eat]; simp [sizeBs], .nil, rfl⟩ (fun j σ H' _ h => SqT.of (h.1.tu _ _ gp)) ?_ ?_⟩
      · rintro j y σ H5 hy ⟨c5, acc2, z, y9, gI, ez, td2, rfl⟩
        obtain ⟨dp, edp, tdy⟩ := (TDs.ch c5 _ _ e4).at hy
        rw [List.getElem?_map] at edp
        obtain ⟨pb, hpb, rfl⟩ := Option.map_eq_some_iff.mp edp
        obtain ⟨d', rfl, okb, szb⟩ := parts_nest nst hpb
        have s15 : Same H1 H5 := ((Ch.same s14).trans c5).toSame (fun a h => by rw [List.mem_singleton.mp h]; exact nI1)
        have la : acc2.length ≤ 2 := by
          rw [td2.len, fixBs_len, List.length_take]
          omega
        refine ⟨_, rfl, .inl ⟨rfl, _, SqL.of gI⟩, _, rfl, _, rfl, _, rfl, _, rfl, a, dx, y, pb, z, t, ps, rfl, s15 _ _ ga, tdy, okb, by omega, s15 _ _ gt, fun H6 p6 s6 td6 => ?_⟩
        have gI6 := s6 _ _ gI
        refine ⟨I, acc2, _, rfl, rfl, gI6, lt_line (by omega), ?_⟩
        have c7 : Ch [I] H6 (upd H6 I (.lst (acc2 ++ [.ref p6]))) := (Ch.refl _ _).put (by simp) gI6 (fun xs z => by cases z)
        have gI7 : upd H6 I (.lst (acc2 ++ [.ref p6])) I = some (.lst (acc2 ++ [.ref p6])) := upd_same
        generalize upd H6 I (.lst (acc2 ++ [.ref p6])) = H7 at c7 gI7 ⊢
        have c67 := (Ch.same (S := [I]) s6).trans c7
        refine ⟨_, rfl, y, rfl, y, pb, rfl, TD.ch c67 _ _ tdy, fun x hx => nest_le (okb x hx) (by omega), by omega, fun H8 s8 => ⟨_, _, rfl, rfl, fun z2 ez2 => ⟨(c5.trans c67).trans (Ch.same s8), acc2 ++ [.ref p6], z2, _, s8 _ _ gI7, ?_, ?_, rfl⟩⟩⟩
        · rw [take_snoc hpb, sizeBs_append, ez2, ez]
          show _ + 1 + _ + (sizeB pb : Int) = _ + 1 + ((sizeBs _ + (sizeB pb + 0) : Nat) : Int)
          omega
        · rw [take_snoc hpb, fixBs_snoc, ← ez]
          exact TDs.ch ((Ch.same (S := [I]) s6).trans (c7.trans (Ch.same s8))) _ _ td2 |>.snoc (TD.ch (c7.trans (Ch.same s8)) _ _ td6)
      · rintro σ H5 ⟨c5, acc2, z, y9, gI, ez, td2, rfl⟩
        rw [lys, List.take_length] at td2
        have s15 : Same H1 H5 := ((Ch.same s14).trans c5).toSame (fun a h => by rw [List.mem_singleton.mp h]; exact nI1)
        obtain ⟨pa, pb, pc, pds, ed2, eh⟩ := parts_shape hp
        rw [ed] at ed2
        injection ed2 with ed3
        injection ed3 with h1 h2
        injection h2 with h2 h3
        subst h1 h2
        have lyp : ys ≠ [] := fun z => by
          rw [z] at lys
          exact hp (List.length_eq_zero_iff.mp lys.symm)
        obtain ⟨y0, ys, rfl⟩ := List.exists_cons_of_ne_nil lyp
        refine ⟨_, rfl, _, rfl, r, _, rfl, SqT.of (s15 _ _ gr), fun h => absurd h.2 (to2_not _ _ _ _), fun _ p2 np2 => ?_⟩
        rw [to2_cut]
        have s6 := Same.up (o := HO.tup [V.str wd, v2]) np2
        have tdp : TD (upd H5 p2 (HO.tup [V.str wd, v2])) (.ref p2) (.tuple (hd2 s)) := by
          rw [eh]
          exact .tup upd_same (.cons (.str _) (.cons (TD.ch (Ch.same (S := []) (Same.trans s15 s6)) _ _ d2) .nil))
        generalize upd H5 p2 (HO.tup [V.str wd, v2]) = H6 at s6 tdp ⊢
        refine ⟨_, rfl, I, acc2, rfl, .inl ⟨SqL.of (s6 _ _ gI), fun l nl => ?_⟩⟩
        have s7 := Same.up (o := HO.tup acc2) nl
        have tdl : TD (upd H6 l (HO.tup acc2)) (.ref l) (.tuple (fixBs mk (inP ps) (pl + 1) (partsOf s))) := .tup upd_same (TDs.ch (Ch.same (S := []) (Same.trans s6 s7)) _ _ td2)
        generalize upd H6 l (HO.tup acc2) = H7 at s7 tdl ⊢
        refine cat_td (TD.ch (Ch.same (S := []) s7) _ _ tdp) tdl (by rw [eh, fixBs_len]; simp only [List.length_cons, List.length_nil]; omega) fun H8 v s8 td8 => ?_
        refine q H8 v _ _ _ (Same.trans s15 (Same.trans s6 (Same.trans s7 s8))) ?_
        unfold newD
        rw [if_neg hp]
        exact td8
  obtain ⟨r0, xs, rfl, gr0, tds⟩ := td_tup td
  have lx : xs.length = b.length := by rw [tds.len, blkData_eq, List.length_map]
  have lb := len_size b
  refine ⟨Nat.zero_le _, fun Ln nLn => ?_⟩
  have s1 := Same.up (o := HO.lst []) nLn
  have gL1 : upd H Ln (HO.lst []) Ln = some (.lst []) := upd_same
  generalize upd H Ln (HO.lst []) = H1 at s1 gL1 ⊢
  refine ⟨_, rfl, r0, rfl, ⟨_, SqT.of (s1 _ _ gr0)⟩, for_tup (xs := xs) (fun j σ H' => Same H H' ∧ ∃ (L : Addr) (acc : List V) (z : Int) (x5 x6 x7 x8 x9 : Option V), H' L = some (.lst acc) ∧ z = pl + (sizeB (b.take j) : Nat) ∧ TDs H' acc (fixB mk (inP ps) pl (b.take j)) ∧ σ = [some (.ref a), some (.ref r0), some (.int z), some (.ref t), some (.ref L), x5, x6, x7, x8, x9])
    ⟨s1, Ln, [], pl, none, none, none, none, none, gL1, by simp [sizeB], .nil, rfl⟩ (fun j σ H' _ h => SqT.of (h.1 _ _ gr0)) ?_ ?_⟩
  · rintro j x σ H' hx ⟨sm, L, acc, z, x5, x6, x7, x8, x9, gL, ez, tda, rfl⟩
    obtain ⟨dt, edt, tdv⟩ := (TDs.ch (Ch.same (S := []) sm) _ _ tds).at hx
    rw [blkData_eq, List.getElem?_map] at edt
    obtain ⟨s, hs, rfl⟩ := Option.map_eq_some_iff.mp edt
    have oks := nest s (List.mem_of_getElem? hs)
    have szs := size_mem (List.mem_of_getElem? hs)
    have lacc : acc.length ≤ 2000 := by
      rw [tda.len]
      have := fixB_len (S := inP ps) Z.ok (b.take j) pl
      have : (b.take j).length ≤ b.length := by rw [List.length_take]; omega
      omega
    refine ⟨x, rfl, a, dx, r0, z, t, L, x, x6, x7, x8, x9, s, ps, rfl, sm _ _ ga, sm _ _ gt, tdv, oks, by omega, fun H2 nv y7 y8 y9 s2 tdn => ?_⟩
    have sm2 := Same.trans sm s2
    refine ⟨_, rfl, a, dx, z, t, x, nv, s, ps, rfl, rfl, rfl, rfl, rfl, sm2 _ _ ga, sm2 _ _ gt, TD.ch (Ch.same (S := []) s2) _ _ tdv, tdn, fun H3 q3 zs s3 g3 td3 => ?_⟩
    have s23 := Same.trans s2 s3
    have lz : zs.length ≤ 2 := by rw [td3.len]; exact fixS_len Z.ok _ _
    refine ⟨L, q3, _, _, rfl, rfl, s23 _ _ gL, g3, Nat.le_of_lt (lt_line (by omega)), fun np nnp => ?_⟩
    have s4 := Same.up (o := HO.lst (acc ++ zs)) nnp
    have g4 : upd H3 np (HO.lst (acc ++ zs)) np = some (.lst (acc ++ zs)) := upd_same
    generalize upd H3 np (HO.lst (acc ++ zs)) = H4 at s4 g4 ⊢
    have s24 := Same.trans s23 s4
    refine ⟨_, rfl, x, rfl, Nat.le_of_ble_eq_true rfl, fun tt ntt => ?_⟩
    have s5 := Same.up (o := HO.tup [x]) ntt
    have tdx : TD (upd H4 tt (HO.tup [x])) (.ref tt) (partD [s]) := .tup upd_same (.cons (TD.ch (Ch.same (S := []) (Same.trans s24 s5)) _ _ tdv) .nil)
    generalize upd H4 tt (HO.tup [x]) = H5 at s5 tdx ⊢
    refine ⟨_, [s], rfl, tdx, fun y hy => by rw [List.mem_singleton.mp hy]; exact nest_le oks hd5, by rw [sizeB_one]; omega, fun H6 s6 => ⟨_, _, rfl, rfl, fun z2 ez2 => ⟨Same.trans sm (Same.trans s24 (Same.trans s5 s6)), np, acc ++ zs, z2, _, _, _, _, _, s6 _ _ (s5 _ _ g4), ?_, ?_, rfl⟩⟩⟩
    · rw [take_snoc hs, sizeB_append, sizeB_one, ez2, ez]
      show _ + _ + ((s.size + 0 : Nat) : Int) = _ + ((_ + s.size : Nat) : Int)
      omega
    · rw [take_snoc hs, fixB_snoc, ← ez]
      have c46 := Ch.same (S := []) (Same.trans s4 (Same.trans s5 s6))
      exact (TDs.ch (Ch.same (S := []) (Same.trans s23 (Same.trans s4 (Same.trans s5 s6)))) _ _ tda).append (TDs.ch c46 _ _ td3)
  · rintro σ H' ⟨sm, L, acc, z, x5, x6, x7, x8, x9, gL, ez, tda, rfl⟩
    rw [lx, List.take_length] at tda
    refine ⟨_, rfl, L, acc, rfl, .inl ⟨SqL.of gL, fun l nl => ?_⟩⟩
    have s4 := Same.up (o := HO.tup acc) nl
    exact q _ l (Same.trans sm s4) (.tup upd_same (TDs.ch (Ch.same (S := []) s4) _ _ tda))
end
end G

set_option Elab.async false
set_option linter.all false
set_option maxRecDepth 100000
set_option maxHeartbeats 4000000
/-! Rules: lists that are new for sure; isinstance of a caught error; repr of a list with an empty dict. -/
namespace G
open PySem PySem.Spec PyProof.Rows L2
def rCatB : R2 := fun x y H Q => ∃ l b xs zs, x = .ref l ∧ y = .ref b ∧ H l = some (.lst xs) ∧ H b = some (.lst zs) ∧ xs.length + zs.length ≤ sizeLine ∧ ∀ p, H p = none → p ≠ sysModules → Q (.ref p) (upd H p (.lst (xs ++ zs)))
theorem op_catB {X : Cx} : OpR X (binaryOp .Add) rCatB := by
  intro pins s σ H x y v u Q I rx ry ⟨l, b, xs, zs, ex, ey, hl, hb, hz, q⟩
  subst ex ey
  cases rx; cases ry
  obtain ⟨_, i1, _, r1, l1, e1⟩ := I.lstM hl
  obtain ⟨_, i2, _, r2, l2, e2⟩ := I.lstM hb
  refine PySem.P.add_list e1 e2 ?_ (by simp only [List.size_toArray]; omega)
  rw [show i1.toArray ++ i2.toArray = (i1 ++ i2).toArray by simp]
  exact ⟨.ref s.heap.objs.size, _, I.lnew (t' := s.toks) (r1.append r2) (by rw [List.length_append]; omega), rfl, q _ I.fresh (Nat.ne_of_gt I.big)⟩
def tLstB (t : TA) : TE := fun σ H Q => t σ H fun xs H1 => xs.length ≤ sizeLine ∧ ∀ p, H1 p = none → p ≠ sysModules → Q (.ref p) (upd H1 p (.lst xs))
theorem pe_lstB {X : Cx} {es : List Expr} {t : TA} {pos : Pos} (h : PA X es t) : PE X (.List es pos) (tLstB t) :=
  ⟨fun pins s σ H Q I hq => wpAny_List_spliced (thn (h.run pos pins s σ H _ I hq) fun us s1 ⟨xs, H1, I1, r, z, q⟩ => ⟨by rw [← r.length]; exact z,
    .ref s1.heap.objs.size, _, I1.laid (o := .lst xs) (t' := s1.toks) (fun b u e => Heap.get?_push_of_some _ e) (Nat.le_refl _) ⟨z, us, 0, r, Heap.get?_push_size _ rfl⟩, rfl, q _ (I1.hok.fresh (Nat.le_refl _)) (Nat.ne_of_gt I1.big)⟩)⟩
/-! ### the error that a suite holds -/
section
variable {X : Cx} {a : Addr} {oe : Obj} {cls : Value} {d : Option Addr} {pn : List (Addr × Obj)}
theorem cap_inst {pins : List (Addr × Obj)} {σ : L2.St} {H : Hp} {s : Shared} {C dd : Addr} {fs : List (Str × V)} (hp : X.pn = (a, oe) :: pn) (hz : Zc (.ref C) (some dd) oe) (hf : ∃ vs, oe.data = .fields vs) (I : Inv X pins σ H s) (ea : H dd = some (.xd fs)) : ∃ od, PySem.W.InstAt s.heap a oe C (some od) := by
  obtain ⟨ha, _⟩ := I.pin (a, oe) (List.mem_append_left _ (by rw [hp]; exact List.mem_cons_self))
  obtain ⟨vs, hd⟩ := hf
  obtain ⟨mA, hns, _⟩ := (show ObjOk X.prog X.w H s.heap dd (.xd fs) from I.hok dd _ ea)
  obtain ⟨od, ho, _⟩ := lookIn_ns hns
  exact ⟨od, ha, hz.1, by unfold PySem.W.notCls; rw [hd] <;> rfl, by rw [hz.2]; exact ho⟩
/-- isinstance(e, c) -/
def rCapI (K : PySem.W.Frag) (a : Addr) (cls : Value) (d : Option Addr) : List V → Hp → VK → Prop := fun xs H Q => ∃ (C dd : Addr) (fs : List (Str × V)) (c : V) (cv : Value) (b : Bool), xs = [.ref a, c] ∧ cls = .ref C ∧ d = some dd ∧ EC K C ∧ H dd = some (.xd fs) ∧ ClsV c cv ∧ PySem.W.kitOne K (.ref C) cv = some b ∧ Q (.bl b) H
theorem call_capI (hp : X.pn = (a, oe) :: pn) (hz : Zc cls d oe) (hf : ∃ vs, oe.data = .fields vs) : CallR X (.builtin "isinstance") (rCapI X.K a cls d) := by
  rintro pins s σ H xs us Q I r ⟨C, dd, fs, c, cv, b, ex, ec, ed, T, hd, hc, e, q⟩
  subst ex ec ed
  obtain ⟨u1, u2, rfl, r1, r2⟩ := vals2 r
  obtain rfl : u1 = Value.ref a := r1
  obtain rfl := hc.eq r2
  obtain ⟨od, J⟩ := cap_inst hp hz hf I hd
  exact PySem.W.kia_one (PySem.W.kitx_exc (ox := oe) (od := some od) T.cl T.ga T.gt T.sb T.ca T.cg T.ct T.mo) I.kIn J e (fun z => nomatch z) fun tk => ⟨.bl b, H, I.tok tk, rfl, q⟩
/-- isinstance(e, (c1, ..)) -/
def rCapT (K : PySem.W.Frag) (a : Addr) (cls : Value) (d : Option Addr) : List V → Hp → VK → Prop := fun xs H Q => ∃ (C dd : Addr) (fs : List (Str × V)) (tp : Addr) (cs : List V) (vs : List Value) (b : Bool), xs = [.ref a, .ref tp] ∧ cls = .ref C ∧ d = some dd ∧ EC K C ∧ H dd = some (.xd fs) ∧ H tp = some (.tup cs) ∧ Paired ClsV cs vs ∧ PySem.W.kitAny K (.ref C) vs = some b ∧ Q (.bl b) H
theorem call_capT (hp : X.pn = (a, oe) :: pn) (hz : Zc cls d oe) (hf : ∃ vs, oe.data = .fields vs) : CallR X (.builtin "isinstance") (rCapT X.K a cls d) := by
  rintro pins s σ H xs us Q I r ⟨C, dd, fs, tp, cs, ws, b, ex, ec, ed, T, hd, hT, hc, e, q⟩
  subst ex ec ed
  obtain ⟨u1, u2, rfl, r1, r2⟩ := vals2 r
  obtain rfl : u1 = Value.ref a := r1
  obtain rfl : u2 = Value.ref tp := r2
  obtain ⟨od, J⟩ := cap_inst hp hz hf I hd
  obtain ⟨_, its, rv, ⟨oc, odx, dt, sl⟩, h1, h2, n, h3⟩ := (show ObjOk X.prog X.w H s.heap tp (.tup cs) from I.hok tp _ hT)
  obtain rfl := ClsV.all hc rv
  simp only at h2 h3
  subst h2 h3
  exact PySem.W.kia_tup (PySem.W.kitx_exc (ox := oe) (od := some od) T.cl T.ga T.gt T.sb T.ca T.cg T.ct T.mo) I.kIn J h1 e (fun z => nomatch z) fun tk => ⟨.bl b, H, I.tok tk, rfl, q⟩
end
/-! ### rules -/
section
variable {X : Cx} {CX : CXT} {k : Nat} {C f : Addr} {m : Str} {fd : FuncData} {ps : List Str} {sp : Sp} {E : L2.St → XK} {o e : Expr} {es : List Expr} {ta : TE} {t : TA} {apos pos : Pos}
def tMethX (C : Addr) (m : Str) (sp : Sp) (E : L2.St → XK) (ta : TE) (t : TA) : TE := fun σ H Q => ta σ H fun x H1 => ∃ a dx fs, x = .ref a ∧ H1 a = some (.ins C dx fs) ∧ fs.lookup m = none ∧ t σ H1 fun vs H2 => sp (x :: vs) H2 Q (E σ)
/-- o.m(e, ..) within a try -/
theorem pe_methX {pl : Sem Bool} (he : PE X o ta) (c : Cls X.K C) (hm : Meth X.K C m f) (F : FnOk X.prog X.w X.K X.mg X.base CX k f fd ps sp) (hr : Room k X.A) (hb : Binds X.K fd ps []) (hx : ∀ σ, PassesAt CX X σ (E σ)) (ha : PA X (e :: es) t)
    (hst : starEach (e :: es) X.env = (false, eval e X.env) :: starEach es X.env := by rfl) (hpl : (backTo pos (starEach es X.env)).any (·.1) = false := by rfl)
    (ht : eval (.Call (.Attribute o m apos) (e :: es) [] pos) X.env = (do
      let ov ← eval o X.env
      standAt apos.atName
      let (f, first) ← holding [ov] (getMethod ov m pl)
      callWith pos f first (backTo pos (starEach (e :: es) X.env)) (backToKw pos (keywordEach [] X.env))) := by rfl) :
    PE X (.Call (.Attribute o m apos) (e :: es) [] pos) (tMethX C m sp E ta t) := by
  refine ⟨fun pins s σ H Q I h => ?_⟩
  refine PySem.W.methodCall_KW (pl := pl) (thn (he.run pins s σ H _ I h) fun u s1 ⟨x, H1, I1, rx, a, dx, fs, ex, ea, l, q⟩ => ?_) ht
  subst ex
  obtain rfl : u = Value.ref a := rx
  refine getmeth_ok I1 ea c hm l ?_
  refine PySem.W.callWith_K (first := [.ref a]) (h₀ := X.base) I.ok.mod.kin hm.kp (thn (ha.run pos pins s1 σ H1 _ I1 q) fun us s2 ⟨vs, H2, I2, r, q2⟩ => ⟨I2.kIn, ?_⟩) hst hpl
  exact run_fnS (us := .ref a :: us) (vs := .ref a :: vs) F hr hb (hx σ) I2 (.cons rfl r) q2
end
theorem pe_capG {X : Cx} {a : Addr} {oe : Obj} {cls : Value} {d : Option Addr} {pn : List (Addr × Obj)} {e : Expr} {te : TE} {pos : Pos} {f : Str} (hp : X.pn = (a, oe) :: pn) (hz : Zc cls d oe) (hf : ∃ vs, oe.data = .fields vs) (he : PE X e te)
    (hb : attributeBase e f X.env (eval e X.env) = eval e X.env := by rfl) : PE X (.Attribute e f pos) (tCapF X.K a cls d f te) := by
  refine ⟨fun pins s σ H Q I h => attr_of hb (thn (he.run pins s σ H _ I h) fun u s1 ⟨y, H1, I1, ry, ey, C, dd, fs, v, ec, T, hno, ed, ea, hl, q⟩ => ?_)⟩
  subst ey
  obtain rfl : u = Value.ref a := ry
  subst ec ed
  obtain ⟨ha, _⟩ := I1.pin (a, oe) (List.mem_append_left _ (by rw [hp]; exact List.mem_cons_self))
  obtain ⟨vs, hd⟩ := hf
  obtain ⟨mA, hns, hr⟩ := (show ObjOk X.prog X.w H1 s1.heap dd (.xd fs) from I1.hok dd _ ea)
  obtain ⟨od, ho, hl2⟩ := lookIn_ns hns
  obtain ⟨u, hu, ru⟩ := RelO.some_of (v := v) (o := mA f) (by rw [← hl]; exact hr f)
  have J : PySem.W.InstAt s1.heap a oe C (some od) := ⟨ha, hz.1, by unfold PySem.W.notCls; rw [hd] <;> rfl, by rw [hz.2]; exact ho⟩
  exact PySem.HandSPX.exc_get I1.kIn J T.ga T.gt T.sb (PySem.W.findObj_own T.hd hno rfl (by rw [hl2, hu])) (handed_of ru) ⟨v, H1, I1.tok _, ru, q⟩
end G

set_option Elab.async false
set_option linter.all false
set_option maxRecDepth 100000
set_option maxHeartbeats 4000000
/-! _law_refused. -/
namespace G
open PySem PySem.Spec PyProof.Rows L2 StX
structure NPz (K : PySem.W.Frag) (mg : Str → Option Value) (CN CG CV : Addr) : Prop where
  mG : mg "GoneError" = some (.ref CG)
  mV : mg "NoVersion" = some (.ref CV)
  k1 : PySem.W.kitOne K (.ref CN) (.type "LookupError") = some true
  k2 : PySem.W.kitAny K (.ref CN) [.ref CG, .type "ValueError", .ref CV] = some false
  te : PySem.W.exmOne K (.ref CN) (.ref CN) = some true
section
variable {P : Program} {w : World} {K : PySem.W.Frag} {mg : Str → Option Value} {base : Heap}
abbrev s__law_refused : Stmt := top 35
abbrev n__law_refused : List Str := ["_law_fix", "_law_program_here", "_law_places", "_law_told", "error", "_law_right"]
abbrev p__law_refused : List Str := ["_law_fix", "_law_program_here", "_law_places"]
theorem sc__law_refused : FnScope n__law_refused p__law_refused (defScope s__law_refused) := ⟨rfl, rfl, rfl, by decide +kernel, rfl, by decide +kernel, by decide +kernel⟩
def spRf (C : Addr) (pls : List Sta → List Int) : Sp := fun vs H Q _ => ∃ (a dx : Addr) (v : V) (t : Addr) (g : Int) (b : List Sta) (ps : List Int) (i : Int), vs = [.ref a, v, .ref t] ∧ H a = some (.ins C dx []) ∧ TD H v (.tuple [.int g, partD b]) ∧ (∀ s ∈ b, NestOk 5 s) ∧ sizeB b ≤ 1000 ∧
  H t = some (.tup (ps.map V.int)) ∧ ps.length ≤ 1000 ∧ badP (pls b) ps = some i ∧ ∀ H', Same H H' → Q (.int i) H'
theorem ok_refused {f fA : Addr} {fd dA : FuncData} {CN CG CV C : Addr} {mk : Sta → PyData} {pls : List Sta → List Int} (F : Fun K "_law_refused" "_law_refused" s__law_refused f fd) (z_isi : mg "isinstance" = none) (z_le : mg "LookupError" = none) (z_ve : mg "ValueError" = none)
    (N : NPx P w K mg base CN) (Y : NPz K mg CN CG CV) (cl : Cls K C) (MA : Meth K C "applied" fA) (GA : FnOk P w K mg base (L2.CX P w) 16 fA dA ["self", "program", "places"] (spAp CN C mk pls)) (BA : Binds K dA ["self", "program", "places"] []) : FnOk P w K mg base CX0 17 f fd p__law_refused (spRf C pls) := by
  refine F.ok sc__law_refused (fun vs H Q E ⟨a, dx, v, t, g, b, ps, i, ev, _⟩ => by rw [ev]; rfl) (fun cdv A outer s H vs Q E hr ⟨a, dx, v, t, g, b, ps, i, ev, ga, td, nest, hz, gt, lps, hb, q⟩ => ?_)
  subst ev
  refine ⟨_, (pss_cons (ps_set (i := 3) sc__law_refused.nd rfl (.inl rfl) pe_str)
      (pss_cons (ps_try_as (i := 4) (ts := fun a cls dd => tSeq (tAsg (tAndV (tCB (rCapI K a cls dd) (tCons (tVar 4) (tCons (tC (.ty "LookupError")) tNil))) (tNotV (tCB (rCapT K a cls dd) (tCons (tVar 4) (tCons (tTup (tCons (tC (.ref CG)) (tCons (tC (.ty "ValueError")) (tCons (tC (.ref CV)) tNil)))) tNil))))) (gName 5)) (tAsg (tIf (tB (tVar 5)) (tCapF K a cls dd "place" (tVar 4)) (tC (.str "other"))) (gName 3)))
        rfl rfl sc__law_refused.nd rfl rfl ⟨rfl, by decide, .inl N.mg⟩ takes0
        (fun W pn xe tk _ => pss_one (ps_expr (pe_methX (pv 0) cl MA GA hr BA (fun σ => passAt tk σ) (pa_cons (pv 1) (pa_cons (pv 2) pa_nil)))))
        (fun a oe cls dd pn hz hf => pss_cons (ps_set (i := 5) sc__law_refused.nd rfl (.inl rfl) (pe_and (pe_callB (call_capI (pn := pn) rfl hz hf) (by rfl) z_isi (by decide +kernel) (pa_cons (pv 4) (pa_cons (pe_bltn (v := .ty "LookupError") (by rfl) z_le rfl rfl) pa_nil)))
            (pe_one (pe_not (pe_callB (call_capT (pn := pn) rfl hz hf) (by rfl) z_isi (by decide +kernel) (pa_cons (pv 4) (pa_cons (pe_tup (pa_cons (pe_glob (v := .ref CG) rfl Y.mG rfl) (pa_cons (pe_bltn (v := .ty "ValueError") (by rfl) z_ve rfl rfl) (pa_cons (pe_glob (v := .ref CV) rfl Y.mV rfl) pa_nil)))) pa_nil)))))))
          (pss_one (ps_set (i := 3) sc__law_refused.nd rfl (.inl rfl) (pe_ifExp (pt_val (pv 5)) (pe_capG (pn := pn) rfl hz hf (pv 4)) pe_str)))))
      (pss_one (ps_ret (pv 3))))), ?_⟩
  refine ⟨_, rfl, a, dx, [], rfl, ga, rfl, v, rfl, .ref t, rfl, a, dx, v, t, g, b, ps, rfl, ga, td, nest, hz, gt, lps, fun h => (by rw [hb] at h; cases h), fun i2 hi H' dd s' gd => ?_⟩
  have ei : i2 = i := by rw [hb] at hi; exact (Option.some.inj hi).symm
  subst ei
  refine ⟨true, Y.te, fun _ a2 na => ?_, fun z => nomatch z⟩
  refine ⟨_, rfl, CN, dd, _, _, _, true, rfl, rfl, rfl, N.es.c, gd, .ty "LookupError", Y.k1, _, rfl, iteT ⟨_, rfl, Nat.le_of_ble_eq_true rfl, fun tp ntp => ?_⟩⟩
  have s2 := Same.up (o := HO.tup [V.ref CG, V.ty "ValueError", V.ref CV]) ntp
  have gt2 : upd H' tp (HO.tup [V.ref CG, V.ty "ValueError", V.ref CV]) tp = some (.tup [V.ref CG, V.ty "ValueError", V.ref CV]) := upd_same
  have gd2 := s2 _ _ gd
  generalize upd H' tp (HO.tup [V.ref CG, V.ty "ValueError", V.ref CV]) = H2 at s2 gt2 gd2 ⊢
  refine ⟨CN, dd, _, tp, _, _, false, rfl, rfl, rfl, N.es.c, gd2, gt2, .cons (.own CG) (.cons (.ty "ValueError") (.cons (.own CV) .nil)), Y.k2, _, rfl, ?_⟩
  refine ⟨_, rfl, _, rfl, iteT ⟨_, rfl, rfl, CN, dd, _, _, rfl, N.es.c, N.nf, rfl, gd2, rfl, ?_⟩⟩
  exact ⟨_, rfl, q _ (Same.trans s' s2)⟩
end
end G

set_option Elab.async false
set_option linter.all false
set_option maxRecDepth 100000
set_option maxHeartbeats 4000000
/-! k79's law: a draw out of many, methods of several classes, comprehensions that draw, what is shown. -/
namespace G
open PySem PySem.Spec PyProof.Rows L2 StX
def spDrawB : Sp := fun vs H Q _ => ∃ (D L : Addr) (n : Nat) (many : Int), vs = [.ref D, .int many] ∧ Deck H D L n ∧ n < 10 ^ 12 ∧ 1 ≤ many ∧ many ≤ 1000000000000000000 ∧
  ∀ H' r, Kp [D, L] H H' → Deck H' D L (n + 1) → 0 ≤ r → r < many → Q (.int r) H'
section
variable {P : Program} {w : World} {K : PySem.W.Frag} {mg : Str → Option Value} {base : Heap}
theorem ok_drawB {f : Addr} {fd : FuncData} {k : Nat} (F : Fun K "_law_draw" "_law_draw" s__law_draw f fd) (T : Bi mg) : FnOk P w K mg base CX0 (k + 1) f fd ["_law_deck_here", "_law_many"] spDrawB := by
  refine F.ok sc__law_draw (fun vs H Q E h => ?_) (fun cdv A outer s H vs Q E hr h => ?_)
  · obtain ⟨D, L, n, many, rfl, _⟩ := h
    rfl
  obtain ⟨D, L, n, many, rfl, hD, hn, hm1, hm2, q⟩ := h
  refine ⟨_, (pss_cons (ps_asg (pe_op op_add (pe_ix ix_list (pv 0) pe_int (fun _ _ => rfl)) pe_int) (pg_sub (pv 0) pe_int set_list))
      (pss_cons (ps_asg (pe_tup (pa_cons pe_int (pa_cons (pe_un un_neg pe_int) pa_nil))) (pg_tup rfl (pgs_cons (pg_name (i := 2) sc__law_draw.nd rfl (.inl rfl)) (pgs_cons (pg_name (i := 3) sc__law_draw.nd rfl (.inl rfl)) pgs_nil))))
      (pss_cons (ps_if (pt_cmpR op_gt (pe_callB call_len_seq (by rfl) T.z_len (by decide +kernel) (pa_cons (pe_ix ix_list (pv 0) pe_int (fun _ _ => rfl)) pa_nil)) pe_int (nomark _))
      (pss_cons (ps_set (i := 3) sc__law_draw.nd rfl (.inl rfl) (pe_op op_modN (pe_callTy call_int1 (by rfl) T.z_int (by decide +kernel) (pa_cons (pe_ix ix_list (pv 0) pe_int (fun _ _ => rfl)) pa_nil)) (pe_callB call_len_seq (by rfl) T.z_len (by decide +kernel) (pa_cons (pe_ix ix_list (pv 0) pe_int (fun _ _ => rfl)) pa_nil))))
      (pss_one (ps_set (i := 2) sc__law_draw.nd rfl (.inl rfl) (pe_ix ix_list (pe_ix ix_list (pv 0) pe_int (fun _ _ => rfl)) (pv 3) (fun _ _ => rfl)))))
      pss_nil)
      (pss_cons (ps_if (pt_cmpR op_ge (pv 2) (pe_op op_pow pe_int pe_int) (nomark _))
      (pss_cons (ps_asg (pe_op op_fdivW (pe_callTy call_int1 (by rfl) T.z_int (by decide +kernel) (pa_cons (pv 2) pa_nil)) (pv 1)) (pg_sub (pe_ix ix_list (pv 0) pe_int (fun _ _ => rfl)) (pv 3) set_list))
      (pss_one (ps_ret (pe_op op_modN (pe_callTy call_int1 (by rfl) T.z_int (by decide +kernel) (pa_cons (pv 2) pa_nil)) (pv 1)))))
      pss_nil)
      (pss_cons (ps_set (i := 4) sc__law_draw.nd rfl (.inl rfl) (pe_op op_add (pe_op op_add (pe_op op_modN (pe_callTy call_int1 (by rfl) T.z_int (by decide +kernel) (pa_cons (pv 2) pa_nil)) pe_int) (pe_op op_mul pe_int (pe_ix ix_list (pv 0) pe_int (fun _ _ => rfl)))) pe_int))
      (pss_one (ps_ret (pe_op op_modN (pe_callTy call_int1 (by rfl) T.z_int (by decide +kernel) (pa_cons (pe_op op_modN (pe_callTy call_int1 (by rfl) T.z_int (by decide +kernel) (pa_cons (pe_op op_pow (pv 4) pe_int) pa_nil)) pe_int) pa_nil)) (pv 1))))))))), ?_⟩
  obtain ⟨ne, m, ns, h1, h2, h3, h4, h5, h6⟩ := hD
  have a1 : ∀ (l : Addr) (x : V), atI [V.ref l, x] 1 = some x := fun l x => atI_nat (j := 1) rfl
  have a0 : ∀ (l : Addr) (x : V), atI [V.ref l, x] 0 = some (V.ref l) := fun l x => atI_nat (j := 0) rfl
  -- deck[1] = deck[1] + 1
  refine ⟨.ref D, rfl, D, _, 1, _, rfl, rfl, SqL.of h1, a1 _ _, m, 1, rfl, rfl, ?_⟩
  refine ⟨.ref D, rfl, D, _, 1, 1, rfl, rfl, h1, rfl, ?_⟩
  have e1 : ([V.ref L, V.int m].set 1 (V.int (m + 1))) = [V.ref L, V.int (m + 1)] := rfl
  rw [e1]
  obtain ⟨H1, hH1⟩ : ∃ H1, H1 = upd H D (.lst [V.ref L, V.int (m + 1)]) := ⟨_, rfl⟩
  rw [← hH1]
  have k1 : Kp [D, L] H H1 := by rw [hH1]; exact (Kp.refl _ _).put (by simp)
  have g1 : H1 D = some (.lst [V.ref L, V.int (m + 1)]) := by rw [hH1, upd_same]
  have g2 : H1 L = some (.lst (ns.map V.int)) := by rw [hH1, upd_ne ne.symm]; exact h2
  -- _law_cell, _law_at = (0, -1)
  refine ⟨1, rfl, by show 2 ≤ sizeLine; exact line1000 (by decide), fun p np => ?_⟩
  refine ⟨p, _, rfl, SqT.of upd_same, rfl, _, _, rfl, _, _, rfl, rfl, ?_⟩
  have npD : D ≠ p := ne_of_none g1 np
  have npL : L ≠ p := ne_of_none g2 np
  obtain ⟨H2, hH2⟩ : ∃ H2, H2 = upd H1 p (.tup [V.int 0, V.int (-1)]) := ⟨_, rfl⟩
  rw [← hH2]
  have k2 : Kp [D, L] H H2 := by rw [hH2]; exact k1.new np
  have f1 : H2 D = some (.lst [V.ref L, V.int (m + 1)]) := by rw [hH2, upd_ne npD]; exact g1
  have f2 : H2 L = some (.lst (ns.map V.int)) := by rw [hH2, upd_ne npL]; exact g2
  -- if len(deck[0]) > 0
  refine ⟨.ref D, rfl, D, _, 0, _, rfl, rfl, SqL.of f1, a0 _ _, L, _, rfl, .inl (SqL.of f2), _, _, rfl, rfl, _, rfl, ite2 (fun c => ?w1) (fun c => ?w2)⟩
  case' w1 =>
    have hpos : (0 : Int) < ((ns.map V.int).length : Int) := of_decide_eq_true c
    have hlen : (ns.map V.int).length = ns.length := List.length_map _
    refine ⟨.ref D, rfl, D, _, 1, _, rfl, rfl, SqL.of f1, a1 _ _, .inl ⟨_, rfl, .ref D, rfl, D, _, 0, _, rfl, rfl, SqL.of f1, a0 _ _, L, _, rfl, .inl (SqL.of f2), m + 1, _, rfl, rfl, by omega, ?_⟩⟩
    obtain ⟨at_, eat⟩ : ∃ at_, at_ = (m + 1).fmod ((ns.map V.int).length : Int) := ⟨_, rfl⟩
    dsimp only
    rw [← eat]
    rw [Int.fmod_eq_emod_of_nonneg _ (by omega)] at eat
    have b0 : 0 ≤ at_ := by rw [eat]; exact Int.emod_nonneg _ (by omega)
    have b1 : at_ < (ns.length : Int) := by rw [eat, hlen]; exact Int.emod_lt_of_pos _ (by omega)
    have b2 : at_.toNat < ns.length := by omega
    have hat : atI (ns.map V.int) at_ = some (.int ns[at_.toNat]) := by
      have z := atI_nat (xs := ns.map V.int) (j := at_.toNat) (v := .int ns[at_.toNat]) (by simp)
      rwa [show ((at_.toNat : Nat) : Int) = at_ by omega] at z
    refine ⟨.ref D, rfl, D, _, 0, _, rfl, rfl, SqL.of f1, a0 _ _, .int at_, rfl, L, _, at_, _, rfl, rfl, SqL.of f2, hat, ?_⟩
    have hc0 : 0 ≤ ns[at_.toNat] := h6 _ (List.getElem_mem b2)
    have hcat : 10 ^ 18 ≤ ns[at_.toNat] → 0 ≤ at_ ∧ at_.toNat < ns.length := fun _ => ⟨b0, b2⟩
    obtain ⟨cell, ecell⟩ : ∃ cell, cell = ns[at_.toNat] := ⟨_, rfl⟩
    rw [← ecell] at hc0 hcat ⊢
    clear c
  case' w2 =>
    obtain ⟨cell, ecell⟩ : ∃ cell : Int, cell = 0 := ⟨_, rfl⟩
    obtain ⟨at_, eat⟩ : ∃ at_ : Int, at_ = -1 := ⟨_, rfl⟩
    have hc0 : 0 ≤ cell := by omega
    have hcat : 10 ^ 18 ≤ cell → 0 ≤ at_ ∧ at_.toNat < ns.length := fun z => by omega
    clear c
    show tSeq _ _ _ [some (.ref D), some (.int many), some (.int 0), some (.int (-1)), none] H2
    rw [show (some (V.int 0) : Option V) = some (V.int cell) by rw [ecell], show (some (V.int (-1)) : Option V) = some (V.int at_) by rw [eat]]
  all_goals
    refine ⟨_, rfl, ⟨10, 18, rfl, rfl, ⟨by omega, by omega, by decide⟩, ?_⟩⟩
    refine ⟨_, _, rfl, rfl, _, rfl, ite2 (fun c => ?_) (fun c => ?_)⟩
    · have c18 : (10 : Int) ^ 18 ≤ cell := of_decide_eq_true c
      obtain ⟨b0, b2⟩ := hcat c18
      refine ⟨_, rfl, .inl ⟨cell, rfl, .int many, rfl, cell, many, rfl, rfl, wide_div (b := 60) (by omega) (by omega) (by decide) (by decide), ?_⟩⟩
      refine ⟨.ref D, rfl, D, _, 0, _, rfl, rfl, SqL.of f1, a0 _ _, .int at_, rfl, L, _, at_, at_.toNat, rfl, rfl, f2, ?_, ?_⟩
      · unfold ixN
        rw [if_pos b0, if_pos (by rw [List.length_map]; omega)]
      · refine ⟨_, rfl, .inl ⟨cell, rfl, .int many, rfl, cell, many, rfl, rfl, by omega, ?_⟩⟩
        dsimp only
        rw [Int.fmod_eq_emod_of_nonneg _ (by omega)]
        refine q _ _ (k2.put (by simp)) ⟨ne, m + 1, ns.set at_.toNat (cell / many), by rw [upd_ne ne]; exact f1, by rw [upd_same, List.map_set], by omega, by omega, by rw [List.length_set]; exact h5, fun x hx => ?_⟩ (Int.emod_nonneg _ (by omega)) (Int.emod_lt_of_pos _ (by omega))
        rcases List.mem_or_eq_of_mem_set hx with hx | hx
        · exact h6 x hx
        · rw [hx]
          exact Int.ediv_nonneg hc0 (by omega)
    · refine ⟨_, rfl, .inl ⟨cell, rfl, cell, 2147483563, rfl, rfl, by omega, .ref D, rfl, D, _, 1, _, rfl, rfl, SqL.of f1, a1 _ _, 8117, m + 1, rfl, rfl, .inl ⟨by omega, by omega⟩, _, _, rfl, rfl, _, 3, rfl, rfl, ?_⟩⟩
      have t1 : cell.fmod 2147483563 = cell % 2147483563 := Int.fmod_eq_emod_of_nonneg _ (by omega)
      have z1 : 0 ≤ cell % 2147483563 := Int.emod_nonneg _ (by omega)
      have z2 : cell % 2147483563 < 2147483563 := Int.emod_lt_of_pos _ (by omega)
      dsimp only
      rw [t1]
      obtain ⟨mx, emx⟩ : ∃ mx, mx = cell % 2147483563 + 8117 * (m + 1) + 3 := ⟨_, rfl⟩
      rw [← emx]
      refine ⟨.int mx, rfl, mx, 5, rfl, rfl, ⟨by omega, by omega, by omega⟩, ?_⟩
      refine .inl ⟨_, rfl, _, 2147483629, rfl, rfl, by omega, .inl ⟨_, rfl, .int many, rfl, _, many, rfl, rfl, by omega, ?_⟩⟩
      dsimp only
      rw [Int.fmod_eq_emod_of_nonneg _ (by omega : (0 : Int) ≤ many)]
      exact q _ _ k2 ⟨ne, m + 1, ns, f1, f2, by omega, by omega, h5, h6⟩ (Int.emod_nonneg _ (by omega)) (Int.emod_lt_of_pos _ (by omega))
end
inductive Kd
  | K
  | S
  | F
def mkOf : Kd → Sta → PyData
  | .K => chK
  | .S => chS
  | .F => chF
def plsOf : Kd → List Sta → List Int
  | .K => plsK
  | .S => plsS
  | .F => plsF
theorem mkOk_of : ∀ i, MkOk (mkOf i)
  | .K => mkOk_K
  | .S => mkOk_S
  | .F => mkOk_F
theorem plsOk_of : ∀ i, PlsOk (plsOf i)
  | .K => plsOk_K
  | .S => plsOk_S
  | .F => plsOk_F
theorem plsLen_of (b : List Sta) : ∀ i, (plsOf i b).length ≤ sizeB b
  | .K => by have := placesW_len "make" (rowsP 0 b) 0; rw [rowsP_len] at this; exact this
  | .S => by have := placesW_len "weak" (rowsP 0 b) 0; rw [rowsP_len] at this; exact this
  | .F => Nat.zero_le _
theorem FnOk.any {ι : Type} {P : Program} {w : World} {K : PySem.W.Frag} {mg : Str → Option Value} {base : Heap} {CX : CXT} {k : Nat} {f : Addr} {fd : FuncData} {ps : List Str} {sp : ι → Sp} (h : ∀ i, FnOk P w K mg base CX k f fd ps (sp i)) : FnOk P w K mg base CX k f fd ps (fun vs H Q E => ∃ i, sp i vs H Q E) :=
  ⟨fun vs H Q E ⟨i, z⟩ => (h i).len vs H Q E z, fun A outer s H args us vs Q E hr e b v ⟨i, z⟩ => (h i).run A outer s H args us vs Q E hr e b v z⟩
/-! ### o.m(..), o of one of several classes -/
section
variable {X : Cx} {CX : CXT} {k : Nat} {ι : Type} {cO : ι → Addr} {m : Str} {ps : List Str} {sp : ι → Sp} {E : XK} {o e : Expr} {es : List Expr} {ta : TE} {t : TA} {apos pos : Pos}
def tMethA (cO : ι → Addr) (m : Str) (sp : ι → Sp) (E : XK) (ta : TE) (t : TA) : TE := fun σ H Q => ta σ H fun x H1 => ∃ i a dx fs, x = .ref a ∧ H1 a = some (.ins (cO i) dx fs) ∧ fs.lookup m = none ∧ t σ H1 fun vs H2 => sp i (x :: vs) H2 Q E
theorem pe_methA {pl : Sem Bool} (he : PE X o ta) (hm : ∀ i, Cls X.K (cO i) ∧ ∃ f fd, Meth X.K (cO i) m f ∧ FnOk X.prog X.w X.K X.mg X.base CX k f fd ps (sp i) ∧ Binds X.K fd ps []) (hr : Room k X.A) (hx : Passes CX X E) (ha : PA X (e :: es) t)
    (hst : starEach (e :: es) X.env = (false, eval e X.env) :: starEach es X.env := by rfl) (hpl : (backTo pos (starEach es X.env)).any (·.1) = false := by rfl)
    (ht : eval (.Call (.Attribute o m apos) (e :: es) [] pos) X.env = (do
      let ov ← eval o X.env
      standAt apos.atName
      let (f, first) ← holding [ov] (getMethod ov m pl)
      callWith pos f first (backTo pos (starEach (e :: es) X.env)) (backToKw pos (keywordEach [] X.env))) := by rfl) :
    PE X (.Call (.Attribute o m apos) (e :: es) [] pos) (tMethA cO m sp E ta t) := by
  refine ⟨fun pins s σ H Q I h => ?_⟩
  refine PySem.W.methodCall_KW (pl := pl) (thn (he.run pins s σ H _ I h) fun u s1 ⟨x, H1, I1, rx, i, a, dx, fs, ex, ea, l, q⟩ => ?_) ht
  obtain ⟨c, f, fd, M, F, hb⟩ := hm i
  subst ex
  obtain rfl : u = Value.ref a := rx
  refine getmeth_ok I1 ea c M l ?_
  refine PySem.W.callWith_K (first := [.ref a]) (h₀ := X.base) I.ok.mod.kin M.kp (thn (ha.run pos pins s1 σ H1 _ I1 q) fun us s2 ⟨vs, H2, I2, r, q2⟩ => ⟨I2.kIn, ?_⟩) hst hpl
  have e0 : (V.ref a :: vs) ++ [] = V.ref a :: vs := List.append_nil _
  exact run_fn (us := .ref a :: us) (vs := .ref a :: vs) F hr hb .nil hx I2 (.cons rfl r) (by rw [e0]; exact q2)
end
/-! ### the first place that is no place of a fix -/
theorem bad_sorted {ks qs wr so : List Int} {w0 : Int} (hq : ∀ i ∈ qs, i ∈ ks) (hw : ∀ i ∈ w0 :: wr, i ∉ ks) (hs : so.Perm (qs ++ w0 :: wr)) (ho : so.Pairwise (· ≤ ·)) (hm : ∀ x ∈ wr, w0 ≤ x) : badP ks so = some w0 := by
  have w0so : w0 ∈ so := hs.mem_iff.mpr (List.mem_append_right _ (List.mem_cons_self ..))
  have w0k : w0 ∉ ks := hw w0 (List.mem_cons_self ..)
  unfold badP
  cases e : so.find? (fun i => decide (i ∉ ks)) with
  | none =>
    have z := List.find?_eq_none.mp e w0 w0so
    exact absurd w0k (by simpa using z)
  | some x =>
    obtain ⟨hx, as, bs, eso, has⟩ := List.find?_eq_some_iff_append.mp e
    have hx : x ∉ ks := of_decide_eq_true hx
    have xso : x ∈ so := by rw [eso]; simp
    have xw : x ∈ w0 :: wr := by
      rcases List.mem_append.mp (hs.mem_iff.mp xso) with z | z
      · exact absurd (hq x z) hx
      · exact z
    have h1 : w0 ≤ x := by
      rcases List.mem_cons.mp xw with z | z
      · rw [z]; exact Int.le_refl _
      · exact hm x z
    have h2 : x ≤ w0 := by
      rw [eso] at w0so ho
      rcases List.mem_append.mp w0so with z | z
      · have := has w0 z
        exact absurd w0k (by simpa using this)
      · rcases List.mem_cons.mp z with z | z
        · rw [z]; exact Int.le_refl _
        · have p := (List.pairwise_append.mp ho).2.1
          exact (List.pairwise_cons.mp p).1 w0 z
    rw [show x = w0 by omega]
/-! ### what is shown -/
def MkSh (mk : Sta → PyData) : Prop := ∀ d s, StaOk d s → ShowyS (tupItems (mk s)) (5 + 2 * d) (4000 * s.size)
theorem mkSh_one {d : Nat} {s : Sta} (h : StaOk d s) : ShowyS [s.data] (5 + 2 * d) (4000 * s.size) := by
  have := sz1 s
  exact (ShowyS.cons (showy_sta d s h) .nil).mono (Nat.le_refl _) (by omega)
theorem mkSh_K : MkSh chK := fun d s h => by
  by_cases c : headS s = "make"
  · obtain ⟨x, rfl⟩ := head_make c
    have h : Nm x := by cases d <;> exact h
    exact (ShowyS.cons ((showy_act (a := .make x) h).mono (by omega : 5 ≤ 5 + 2 * d) (Nat.le_refl _)) (ShowyS.cons ((ShowyS.cons (showy_kw "keep" (by decide) 0) (ShowyS.cons (showy_nm h 0) .nil)).tup.mono (by omega) (Nat.le_refl _)) .nil)).mono (Nat.le_refl _) (Nat.le_of_ble_eq_true rfl)
  · rw [chK_else c]
    exact mkSh_one h
theorem mkSh_S : MkSh chS := fun d s h => by
  by_cases c : headS s = "weak"
  · obtain ⟨x, f, y, rfl⟩ := head_weak c
    have h : Nm x ∧ Nm f ∧ Nm y := by cases d <;> exact h
    exact (ShowyS.cons ((ShowyS.cons (showy_kw "hold" (by decide) 0) (ShowyS.cons (showy_nm h.1 0) (ShowyS.cons (showy_nm h.2.1 0) (ShowyS.cons (showy_nm h.2.2 0) .nil)))).tup.mono (by omega) (Nat.le_refl _)) .nil).mono (Nat.le_refl _) (Nat.le_of_ble_eq_true rfl)
  · rw [chS_else c]
    exact mkSh_one h
theorem mkSh_F : MkSh chF := fun d s h => mkSh_one h
theorem mkSh_of : ∀ i, MkSh (mkOf i)
  | .K => mkSh_K
  | .S => mkSh_S
  | .F => mkSh_F
theorem ShowyS.append {es : List PyData} {p m : Nat} (b : ShowyS es p m) : ∀ {ds : List PyData} {n : Nat}, ShowyS ds p n → ShowyS (ds ++ es) p (n + m)
  | [], n, a => b.mono (Nat.le_refl _) (by omega)
  | d :: r, n, a => by
    have a1 := a.s
    have a2 := a.h
    have a3 := a.o
    have a4 := a.p
    have a5 := a.b
    simp only [PyData.showableAll, Bool.and_eq_true] at a1
    simp only [PyData.hasDictAll, Bool.or_eq_false_iff] at a2
    simp only [PyData.depthAll] at a4
    simp only [bigs] at a5
    have z := ShowyS.append b (ds := r) (n := bigs r) ⟨a1.2, a2.2, a3.2, by omega, Nat.le_refl _⟩
    exact (ShowyS.cons (d := d) (n := big d) ⟨a1.1, a2.1, a3.1, by omega, Nat.le_refl _⟩ z).mono (Nat.le_refl _) (by omega)
section
variable {mk : Sta → PyData} {S : Int → Bool}
mutual
theorem showy_fixS (hm : MkSh mk) : ∀ (d : Nat) (s : Sta) (pl : Int), StaOk d s → ShowyS (fixS mk S pl s) (5 + 2 * d) (4000 * s.size)
  | d, .act a, pl, h => by
    cases e : S pl with
    | true => rw [fixS_in e]; exact hm d _ h
    | false => rw [fixS_act e]; exact mkSh_one h
  | 0, .cond t y n, pl, h => h.elim
  | d + 1, .cond t y n, pl, h => by
    cases e : S pl with
    | true => rw [fixS_in e]; exact hm _ _ h
    | false =>
      have h1 := showy_fixB hm d y (pl + 1) h.2.1
      have h2 := showy_fixB hm d n (pl + 1 + (sizeB y : Nat)) h.2.2
      rw [show fixS mk S pl (.cond t y n) = [.tuple [.str "if", t.data, .tuple (fixB mk S (pl + 1) y), .tuple (fixB mk S (pl + 1 + (sizeB y : Nat)) n)]] by simp [fixS, e]]
      refine (ShowyS.cons ((ShowyS.cons (showy_kw "if" (by decide) (5 + 2 * d + 1)) (ShowyS.cons ((showy_tst' h.1).mono (by omega) (Nat.le_refl _)) (ShowyS.cons h1.tup (ShowyS.cons h2.tup .nil)))).tup.mono (by omega) (Nat.le_refl _)) .nil).mono (Nat.le_refl _) ?_
      show 82 + 2 + (700 + 2 + (4000 * sizeB y + 4 + 2 + (4000 * sizeB n + 4 + 2 + 0))) + 4 + 2 + 0 ≤ 4000 * (1 + (sizeB y + sizeB n))
      omega
  | 0, .rep k b, pl, h => h.elim
  | d + 1, .rep k b, pl, h => by
    cases e : S pl with
    | true => rw [fixS_in e]; exact hm _ _ h
    | false =>
      have h1 := showy_fixB hm d b (pl + 1) h.2
      rw [show fixS mk S pl (.rep k b) = [.tuple [.str "repeat", .int k, .tuple (fixB mk S (pl + 1) b)]] by simp [fixS, e]]
      refine (ShowyS.cons ((ShowyS.cons (showy_kw "repeat" (by decide) (5 + 2 * d + 1)) (ShowyS.cons (showy_int h.1 _) (ShowyS.cons h1.tup .nil))).tup.mono (by omega) (Nat.le_refl _)) .nil).mono (Nat.le_refl _) ?_
      show 82 + 2 + (82 + 2 + (4000 * sizeB b + 4 + 2 + 0)) + 4 + 2 + 0 ≤ 4000 * (1 + sizeB b)
      omega
theorem showy_fixB (hm : MkSh mk) : ∀ (d : Nat) (b : List Sta) (pl : Int), (∀ s ∈ b, StaOk d s) → ShowyS (fixB mk S pl b) (5 + 2 * d) (4000 * sizeB b)
  | d, [], pl, h => .nil
  | d, s :: r, pl, h => by
    have h1 := showy_fixS hm d s pl (h s (List.mem_cons_self ..))
    have h2 := showy_fixB hm d r (pl + (s.size : Nat)) fun z hz => h z (List.mem_cons_of_mem _ hz)
    refine (ShowyS.append h2 h1).mono (Nat.le_refl _) ?_
    show 4000 * s.size + 4000 * sizeB r ≤ 4000 * (s.size + sizeB r)
    omega
end
end
def dAp (mk : Sta → PyData) (S : Int → Bool) (g : Nat) (b : List Sta) : PyData := .tuple [.int g, .tuple (fixB mk S 0 b)]
theorem showy_dAp {mk : Sta → PyData} {S : Int → Bool} {g : Nat} {b : List Sta} (hm : MkSh mk) (hg : g < 4) (h : ∀ s ∈ b, StaOk 5 s) (z : sizeB b ≤ 100) : ShowyP (dAp mk S g b) 100 16000000 := by
  have h1 := showy_fixB (S := S) hm 5 b 0 h
  exact (ShowyS.cons (showy_nat (i := g) (by omega) 16) (ShowyS.cons h1.tup .nil)).tup.mono (by decide) (by omega)
end G

set_option Elab.async false
set_option linter.all false
set_option maxRecDepth 100000
set_option maxHeartbeats 4000000
/-! k79's law: its comprehensions. -/
namespace G
open PySem PySem.Spec PyProof.Rows L2 StX
theorem cmpInt (r m : Int) : decide (V.int r = V.int m) = decide (r = m) := by
  by_cases c : r = m
  · rw [decide_eq_true c, decide_eq_true (by rw [c])]
  · rw [decide_eq_false c, decide_eq_false (fun z => c (by injection z))]
section
variable {K : PySem.W.Frag} {σ : L2.St} {k D L U : Addr} {ks : List Int} {n : Nat} {m : Int} {H1 : Hp} {Qd : Hp → Prop} {ty : TE}
theorem lc_pick (g : H1 k = some (.tup (ks.map V.int))) (d : Deck H1 D L n) (nU : H1 U = none) (hm : 1 ≤ m ∧ m < 1073741824) (hn : n + ks.length < 10 ^ 12) (hl : ks.length ≤ 1000)
    (e1 : ∀ x, wipe ((wipe σ [11]).set 11 (some x)) [11] = wipe σ [11]) (e2 : ∀ x, ((wipe σ [11]).set 11 (some x))[1]? = some (some (.ref D))) (e3 : ∀ x, ((wipe σ [11]).set 11 (some x))[11]? = some (some x))
    (hy : ∀ x H (Q : VK), Q (.int m) H → ty ((wipe σ [11]).set 11 (some x)) H Q)
    (q : ∀ H' (qs : List Int), Ch [D, L] H1 H' → Deck H' D L (n + ks.length) → H' U = some (.lst (qs.map V.int)) → qs.length ≤ ks.length → (∀ i ∈ qs, i ∈ ks) → Qd H') :
    ∃ W : Nat → Nat → Hp → Prop, (∃ m, W 0 m (upd H1 U (.lst []))) ∧ ∀ i m H, W i m H →
      ((Itt K k).stop i H ∧ Qd H) ∨ ((Itt K k).go i H ∧ ∃ Nx : Hp → Prop, (∀ H', Nx H' → ∃ m', m' < m ∧ W (i + 1) m' H') ∧ ∀ x H', (Itt K k).yld i H x H' → gName 11 x (wipe σ [11]) H' fun σ2 H2 => wipe σ2 [11] = wipe σ [11] ∧ tTest (tOp rEq (tCall spDraw [] E0 (tCons (tVar 1) (tCons ty tNil))) (tC (.int 0))) σ2 H2 fun b H3 =>
        if b = true then tVar 11 σ2 H3 fun y H4 => ∃ acc, H4 U = some (.lst acc) ∧ acc.length < sizeLine ∧ Nx (upd H4 U (.lst (acc ++ [y]))) else Nx H3) := by
  have nU' : U ∉ [D, L] := by simpa using d.neD nU
  refine lc_tup (xs := ks.map V.int) (fun i H' => Ch [U, D, L] H1 H' ∧ ∃ qs : List Int, Deck H' D L (n + i) ∧ H' U = some (.lst (qs.map V.int)) ∧ qs.length ≤ i ∧ ∀ y ∈ qs, y ∈ ks)
    ⟨(Ch.refl _ _).new nU, [], d.new nU, upd_same, Nat.le_refl _, fun _ z => absurd z List.not_mem_nil⟩ (fun i H' _ h => SqT.of (h.1.tu _ _ g)) ?_ ?_
  · rintro i x H' hx ⟨ch, qs, dk, gU, lq, hq⟩
    rw [List.getElem?_map] at hx
    obtain ⟨y, hy', rfl⟩ := Option.map_eq_some_iff.mp hx
    have hli : i < ks.length := (List.getElem?_eq_some_iff.mp hy').1
    refine ⟨e1 _, _, e2 _, hy _ _ _ ⟨D, L, _, m, rfl, dk, by omega, hm.1, hm.2, fun H3 r k3 d3 r0 r1 => ⟨rfl, _, rfl, ?_⟩⟩⟩
    rw [cmpInt]
    have c3 := deck_ch dk d3 k3
    have gU3 := k3 _ _ nU' gU
    have ch3 := ch.trans (c3.mono fun b hb => List.mem_cons_of_mem _ hb)
    by_cases c : r = 0
    · rw [decide_eq_true c]
      refine iteT ⟨_, e3 _, _, gU3, by rw [List.length_map]; exact small1000 (by omega), ch3.put (by simp) gU3 (fun xs z => by cases z), qs ++ [y], ?_, ?_, by rw [List.length_append]; show _ + 1 ≤ _; omega, fun z hz => ?_⟩
      · exact (d3.kp (S := [U]) ((Kp.refl _ _).put (by simp)) (fun z => nU' (by simp [List.mem_singleton.mp z])) (fun z => nU' (by simp [List.mem_singleton.mp z])))
      · rw [upd_same, List.map_append]
        rfl
      · rcases List.mem_append.mp hz with hz | hz
        · exact hq z hz
        · rw [List.mem_singleton.mp hz]
          exact List.mem_of_getElem? hy'
    · rw [decide_eq_false c]
      exact iteF ⟨ch3, qs, d3, gU3, by omega, hq⟩
  · rintro H' ⟨ch, qs, dk, gU, lq, hq⟩
    rw [List.length_map] at dk lq
    exact q H' qs (ch.less nU) dk gU lq hq
theorem lc_wrong {cnt : Nat} (g : H1 k = some (.tup (ks.map V.int))) (d : Deck H1 D L n) (nU : H1 U = none) (hn : n + cnt < 10 ^ 12) (hl : cnt ≤ 1000)
    (e1 : ∀ x, wipe ((wipe σ [11]).set 11 (some x)) [11] = wipe σ [11]) (e2 : ∀ x, ((wipe σ [11]).set 11 (some x))[1]? = some (some (.ref D))) (e3 : ∀ x, ((wipe σ [11]).set 11 (some x))[11]? = some (some x)) (e6 : ∀ x, ((wipe σ [11]).set 11 (some x))[6]? = some (some (.ref k)))
    (q : ∀ H' (ws : List Int), Ch [D, L] H1 H' → Deck H' D L (n + cnt) → H' U = some (.lst (ws.map V.int)) → ws.length ≤ cnt → (∀ i ∈ ws, i ∉ ks ∧ 0 ≤ i ∧ i < cnt) → ws.Pairwise (· < ·) → Qd H') :
    ∃ W : Nat → Nat → Hp → Prop, (∃ m, W 0 m (upd H1 U (.lst []))) ∧ ∀ i m H, W i m H →
      ((Itr 0 ((cnt : Nat) : Int).toNat).stop i H ∧ Qd H) ∨ ((Itr 0 ((cnt : Nat) : Int).toNat).go i H ∧ ∃ Nx : Hp → Prop, (∀ H', Nx H' → ∃ m', m' < m ∧ W (i + 1) m' H') ∧ ∀ x H', (Itr 0 ((cnt : Nat) : Int).toNat).yld i H x H' → gName 11 x (wipe σ [11]) H' fun σ2 H2 => wipe σ2 [11] = wipe σ [11] ∧ tAnd (tTest (tOp (rIn K true) (tVar 11) (tVar 6))) (tTest (tOp rEq (tCall spDraw [] E0 (tCons (tVar 1) (tCons (tC (.int 5)) tNil))) (tC (.int 0)))) σ2 H2 fun b H3 =>
        if b = true then tVar 11 σ2 H3 fun y H4 => ∃ acc, H4 U = some (.lst acc) ∧ acc.length < sizeLine ∧ Nx (upd H4 U (.lst (acc ++ [y]))) else Nx H3) := by
  have nU' : U ∉ [D, L] := by simpa using d.neD nU
  refine lc_range (lo := 0) (n := ((cnt : Nat) : Int).toNat) (fun i H' => Ch [U, D, L] H1 H' ∧ ∃ ws : List Int, Deck H' D L (n + i) ∧ H' U = some (.lst (ws.map V.int)) ∧ ws.length ≤ i ∧ (∀ y ∈ ws, y ∉ ks ∧ 0 ≤ y ∧ y < i) ∧ ws.Pairwise (· < ·))
    ⟨(Ch.refl _ _).new nU, [], d.new nU, upd_same, Nat.le_refl _, fun _ z => absurd z List.not_mem_nil, .nil⟩ ?_ ?_
  · rintro i H' hi ⟨ch, ws, dk, gU, lq, hq, hp⟩
    have hi : i < cnt := by omega
    have ei : (0 : Int) + (i : Int) = (i : Int) := by omega
    rw [ei]
    have gk := ch.tu _ _ g
    refine ⟨e1 _, _, e3 _, _, e6 _, k, _, rfl, .inr (SqT.of gk), rfl, flat_ints _, _, rfl, ?_⟩
    rw [inV_int]
    have keep : ∀ H2, Ch [U, D, L] H1 H2 → ∀ n2, n2 ≤ n + (i + 1) → Deck H2 D L n2 → H2 U = some (.lst (ws.map V.int)) → Ch [U, D, L] H1 H2 ∧ ∃ ws : List Int, Deck H2 D L (n + (i + 1)) ∧ H2 U = some (.lst (ws.map V.int)) ∧ ws.length ≤ i + 1 ∧ (∀ y ∈ ws, y ∉ ks ∧ 0 ≤ y ∧ y < ((i + 1 : Nat) : Int)) ∧ ws.Pairwise (· < ·) :=
      fun H2 c2 n2 h2 d2 g2 => ⟨c2, ws, d2.mono h2, g2, by omega, fun y hy => by have := hq y hy; exact ⟨this.1, this.2.1, by omega⟩, hp⟩
    by_cases c : (i : Int) ∈ ks
    · rw [decide_eq_true c]
      exact iteF (iteF (keep H' ch _ (by omega) dk gU))
    · rw [decide_eq_false c]
      refine iteT ⟨_, e2 _, D, L, _, 5, rfl, dk, by omega, by decide, by decide, fun H3 r k3 d3 r0 r1 => ⟨rfl, _, rfl, ?_⟩⟩
      rw [cmpInt]
      have c3 := deck_ch dk d3 k3
      have gU3 := k3 _ _ nU' gU
      have ch3 := ch.trans (c3.mono fun b hb => List.mem_cons_of_mem _ hb)
      by_cases c2 : r = 0
      · rw [decide_eq_true c2]
        refine iteT ⟨_, e3 _, _, gU3, by rw [List.length_map]; exact small1000 (by omega), ch3.put (by simp) gU3 (fun xs z => by cases z), ws ++ [(i : Int)], ?_, ?_, by rw [List.length_append]; show _ + 1 ≤ _; omega, fun y hy => ?_, ?_⟩
        · exact (d3.kp (S := [U]) ((Kp.refl _ _).put (by simp)) (fun z => nU' (by simp [List.mem_singleton.mp z])) (fun z => nU' (by simp [List.mem_singleton.mp z])))
        · rw [upd_same, List.map_append]
          rfl
        · rcases List.mem_append.mp hy with hy | hy
          · have := hq y hy
            exact ⟨this.1, this.2.1, by omega⟩
          · rw [List.mem_singleton.mp hy]
            exact ⟨c, by omega, by omega⟩
        · refine List.pairwise_append.mpr ⟨hp, List.pairwise_singleton _ _, fun a ha b hb => ?_⟩
          rw [List.mem_singleton.mp hb]
          exact (hq a ha).2.2
      · rw [decide_eq_false c2]
        exact iteF (keep H3 ch3 _ (by omega) d3 gU3)
  · rintro H' ⟨ch, ws, dk, gU, lq, hq, hp⟩
    have e : ((cnt : Nat) : Int).toNat = cnt := by omega
    rw [e] at dk lq hq
    exact q H' ws (ch.less nU) dk gU lq hq hp
end
end G

set_option Elab.async false
set_option linter.all false
set_option maxRecDepth 100000
set_option maxHeartbeats 8000000
/-! k79's law. Written by mkF7.py. -/
namespace G
open PySem PySem.Spec PyProof.Rows L2 StX
/-- one more, or none, ahead of the wrong ones -/
def twW : TS := fun Dd σ H => ∃ (D L W : Addr) (n : Nat) (ws : List Int), σ[1]? = some (some (.ref D)) ∧ σ[10]? = some (some (.ref W)) ∧ Deck H D L n ∧ n < 10 ^ 11 ∧ H W = some (.lst (ws.map V.int)) ∧ W ∉ [D, L] ∧ ws.length ≤ 900 ∧
  ∀ H' W' ws', Ch [D, L] H H' → Deck H' D L (n + 2) → H' W' = some (.lst (ws'.map V.int)) → W' ∉ [D, L] → (ws' = ws ∨ ∃ r, 0 ≤ r ∧ r < 50 ∧ ws' = (-1 - r) :: ws) → Dd.nx (σ.set 10 (some (.ref W'))) H'
theorem set_same {σ : L2.St} {i : Nat} {x : Option V} (h : σ[i]? = some x) : σ.set i x = σ := by
  obtain ⟨hi, e⟩ := List.getElem?_eq_some_iff.mp h
  rw [← e]
  exact List.set_getElem_self hi
theorem wrong_head {ks ws ws' : List Int} {z c : Int} (hk : ∀ i ∈ ks, 0 ≤ i ∧ i < c) (hw : ∀ i ∈ ws, i ∉ ks ∧ 0 ≤ i ∧ i < c) (hp : ws.Pairwise (· < ·)) (hz : c ≤ z ∧ z ≤ c + 1000000000000000000) (hc : c ≤ 1000) (h0 : 0 ≤ c)
    (h : ws' = ws ++ [z] ∨ ∃ r, 0 ≤ r ∧ r < 50 ∧ ws' = (-1 - r) :: (ws ++ [z])) : ∃ w0 wr, ws' = w0 :: wr ∧ (∀ x ∈ wr, w0 ≤ x) ∧ (∀ x ∈ w0 :: wr, x ∉ ks) ∧ w0.natAbs ≤ 2000000000000000000 := by
  have hall : ∀ x ∈ ws ++ [z], x ∉ ks ∧ 0 ≤ x ∧ x ≤ c + 1000000000000000000 := fun x hx => by
    rcases List.mem_append.mp hx with hx | hx
    · have := hw x hx
      exact ⟨this.1, this.2.1, by omega⟩
    · rw [List.mem_singleton.mp hx]
      exact ⟨fun m => by have := hk z m; omega, by omega, hz.2⟩
  have hpp : (ws ++ [z]).Pairwise (· < ·) := List.pairwise_append.mpr ⟨hp, List.pairwise_singleton _ _, fun a ha b hb => by
    rw [List.mem_singleton.mp hb]
    have := hw a ha
    omega⟩
  have hne : ws ++ [z] ≠ [] := by simp
  generalize ws ++ [z] = L1 at hall hpp hne h
  rcases h with rfl | ⟨r, r0, r1, rfl⟩
  · obtain ⟨w0, wr, rfl⟩ := List.exists_cons_of_ne_nil hne
    have := hall w0 (List.mem_cons_self ..)
    exact ⟨w0, wr, rfl, fun x hx => Int.le_of_lt ((List.pairwise_cons.mp hpp).1 x hx), fun x hx => (hall x hx).1, by omega⟩
  · refine ⟨_, _, rfl, fun x hx => by have := (hall x hx).2.1; omega, fun x hx => ?_, by omega⟩
    rcases List.mem_cons.mp hx with rfl | hx
    · exact fun m => by have := hk _ m; omega
    · exact (hall x hx).1
section
variable {P : Program} {w : World} {K : PySem.W.Frag} {mg : Str → Option Value} {base : Heap}
abbrev s_law : Stmt := top 36
abbrev n_law : List Str := ["_law_script", "_law_deck_here", "_law_program_here", "_law_inputs", "_law_count_here", "_law_fix", "_law_known", "_law_part", "_law_places", "_law_due", "_law_wrong", "_law_place"]
theorem sc_law : FnScope n_law ["_law_script"] (defScope s_law) := ⟨rfl, rfl, rfl, by decide +kernel, rfl, by decide +kernel, by decide +kernel⟩
theorem ok_law {f fD fW fP fC fX fR CN : Addr} {fd dD dW dP dC dX dR : FuncData} {cO : Kd → Addr} (F : Fun K "law" "law" s_law f fd) (T : Bi mg) (z_tuple : mg "tuple" = none) (z_repr : mg "repr" = none) (z_sorted : mg "sorted" = none)
    (DD : Df K mg "_law_deck" s__law_deck ["_law_script"] fD dD) (GD : FnOk P w K mg base CX0 1 fD dD ["_law_script"] (spDeck K))
    (DW : Df K mg "_law_draw" s__law_draw ["_law_deck_here", "_law_many"] fW dW) (GW : FnOk P w K mg base CX0 1 fW dW ["_law_deck_here", "_law_many"] spDraw) (GWB : FnOk P w K mg base CX0 1 fW dW ["_law_deck_here", "_law_many"] spDrawB)
    (DP : Df K mg "_law_program" s__law_program ["_law_deck_here", "_law_shape"] fP dP) (GP : FnOk P w K mg base CX0 10 fP dP ["_law_deck_here", "_law_shape"] (spProg 4))
    (DC : Df K mg "_law_count" s__law_count ["_law_block"] fC dC) (GC : FnOk P w K mg base CX0 7 fC dC ["_law_block"] (spCt 5))
    (DX : Df K mg "_law_fixed" s__law_fixed p__law_fixed fX dX) (GX : ∀ i, FnOk P w K mg base CX0 13 fX dX p__law_fixed (spFx (cO i) (mkOf i) 5))
    (DR : Df K mg "_law_refused" s__law_refused p__law_refused fR dR) (GR : ∀ i, FnOk P w K mg base CX0 17 fR dR p__law_refused (spRf (cO i) (plsOf i)))
    (ZK : ∀ i, FixK P w K mg base (cO i) (mkOf i) (plsOf i)) (AP : ∀ i, ∃ f fd, Meth K (cO i) "applied" f ∧ FnOk P w K mg base (L2.CX P w) 16 f fd ["self", "program", "places"] (spAp CN (cO i) (mkOf i) (plsOf i)) ∧ Binds K fd ["self", "program", "places"] [])
    (MK : ∀ i, Mk0 K (cO i)) (mK : mg "Keeps" = some (.ref (cO .K))) (mS : mg "Strongs" = some (.ref (cO .S))) (mF : mg "Fix" = some (.ref (cO .F))) : FnOkG P w K mg base 18 f fd ["_law_script"] (spLawN K 63) := by
  refine G.Fun.okG F sc_law (fun vs H Q E ⟨a, ns, ev, _⟩ => by rw [ev]; rfl) (fun cdv A outer s H vs Q E gA hr ⟨a, ns, ev, hS, hlen, q⟩ => ?_)
  subst ev
  have hr1 : Room 1 _ := hr.mono (by decide)
  have hr7 : Room 7 _ := hr.mono (by decide)
  have hr10 : Room 10 _ := hr.mono (by decide)
  have hr12 : Room 12 _ := hr.mono (by decide)
  have hr13 : Room 13 _ := hr.mono (by decide)
  have hr16 : Room 16 _ := hr.mono (by decide)
  have hu101 : (A.deeper (envOfC "law" (defScope s_law) s.heap.objs.size f cdv)).units + 101 < cLine := by have := hr.un; omega
  have gu : (A.deeper (envOfC "law" (defScope s_law) s.heap.objs.size f cdv)).guards = some [] := gA
  refine ⟨_, (pss_cons (ps_set (i := 1) sc_law.nd rfl (.inr rfl) (pe_call GD hr1 (by rfl) DD.m DD.F.kp DD.b .nil pass0 (pa_cons (pv 0) pa_nil)))
      (pss_cons (ps_asg (pe_call GP hr10 (by rfl) DP.m DP.F.kp DP.b .nil pass0 (pa_cons (pv 1) (pa_cons (pe_lst (pa_cons pe_int (pa_cons pe_int (pa_cons pe_int pa_nil)))) pa_nil))) (pg_tup rfl (pgs_cons (pg_name (i := 2) sc_law.nd rfl (.inl rfl)) (pgs_cons (pg_name (i := 3) sc_law.nd rfl (.inl rfl)) pgs_nil))))
      (pss_cons (ps_set (i := 4) sc_law.nd rfl (.inl rfl) (pe_call GC hr7 (by rfl) DC.m DC.F.kp DC.b .nil pass0 (pa_cons (pe_ix ix_tup (pv 2) pe_int (fun _ _ => rfl)) pa_nil)))
      (pss_cons (ps_for PassesOwn.never rfl (pi_list (pe_lst (pa_cons (pe_make00 (MK .K) (by rfl) mK) (pa_cons (pe_make00 (MK .S) (by rfl) mS) (pa_cons (pe_make00 (MK .F) (by rfl) mF) pa_nil))))) (pg_name (i := 5) sc_law.nd rfl (.inl rfl))
      (pss_cons (ps_set (i := 6) sc_law.nd rfl (.inr rfl) (pe_methA (cO := cO) (sp := fun i => spKn (plsOf i)) (pv 5) (fun i => ⟨(ZK i).cl, (ZK i).po⟩) hr12 pass0 (pa_cons (pv 2) pa_nil)))
      (pss_cons (ps_for PassesOwn.never rfl (pi_list (pe_lst (pa_cons pe_int (pa_cons pe_int (pa_cons pe_int pa_nil))))) (pg_name (i := 7) sc_law.nd rfl (.inr rfl))
      (pss_cons (ps_set (i := 8) sc_law.nd rfl (.inl rfl) (pe_callTy call_tuple_of (by rfl) z_tuple (by decide +kernel) (pa_cons (pe_lc (g := gName 11) (tt := (tTest (tOp rEq (tCall spDraw [] E0 (tCons (tVar 1) (tCons (tVar 7) tNil))) (tC (.int 0))))) (te := tVar 11) (own := [("_law_place", 11)]) (by rfl) sc_law.nd (pi_tup (pv 6)) (blkOk_by (N := n_law) (sc := defScope s_law) (by decide +kernel)) (fun _ _ _ _ _ => (pg_name (i := 11) sc_law.nd rfl (.inl rfl))) (fun _ _ _ _ _ => pts_one (pt_cmpR op_eq (pe_call GW hr1 (by rfl) DW.m DW.F.kp DW.b .nil pass0 (pa_cons (pv 1) (pa_cons (pv 7) pa_nil))) pe_int (nomark _))) (fun _ _ _ _ _ => (pv 11))) pa_nil)))
      (pss_cons (ps_set (i := 9) sc_law.nd rfl (.inl rfl) (pe_tup (pa_cons (pe_ix ix_tup (pv 2) pe_int (fun _ _ => rfl)) (pa_cons (pe_call (FnOk.any GX) hr13 (by rfl) DX.m DX.F.kp DX.b .nil pass0 (pa_cons (pv 5) (pa_cons (pe_ix ix_tup (pv 2) pe_int (fun _ _ => rfl)) (pa_cons pe_int (pa_cons (pv 8) pa_nil))))) pa_nil))))
      (pss_one (ps_if (pt_cmpR op_ne (pe_callB (call_rpP gu hu101) (by rfl) z_repr (by decide +kernel) (pa_cons (pe_methA (cO := cO) (sp := fun i => spAp CN (cO i) (mkOf i) (plsOf i)) (pv 5) (fun i => ⟨(ZK i).cl, AP i⟩) hr16 passE (pa_cons (pv 2) (pa_cons (pv 8) pa_nil))) pa_nil)) (pe_callB (call_rpP gu hu101) (by rfl) z_repr (by decide +kernel) (pa_cons (pv 9) pa_nil)) (nomark _))
      (pss_one (ps_ret pe_bl))
      pss_nil)))))
      (pss_cons (ps_setLc (i := 10) (g := gName 11) (tt := tAnd (tTest (tOp (rIn K true) (tVar 11) (tVar 6))) (tTest (tOp rEq (tCall spDraw [] E0 (tCons (tVar 1) (tCons (tC (.int 5)) tNil))) (tC (.int 0))))) (te := tVar 11) (own := [("_law_place", 11)]) (by rfl) sc_law.nd rfl rfl (sw_true rfl rfl rfl (by decide +kernel)) (pi_range1 (by rfl) T.z_range (pa_cons (pv 4) pa_nil)) (blkOk_by (N := n_law) (sc := defScope s_law) (by decide +kernel)) (fun _ _ _ _ _ => (pg_name (i := 11) sc_law.nd rfl (.inl rfl))) (fun _ _ _ _ _ => pts_one (PW.pt (pw_and (pt_cmpR op_notIn_seq (pv 11) (pv 6) (by rfl)) (pw_and1 (pt_cmpR op_eq (pe_call GW hr1 (by rfl) DW.m DW.F.kp DW.b .nil pass0 (pa_cons (pv 1) (pa_cons pe_int pa_nil))) pe_int (nomark _)))))) (fun _ _ _ _ _ => (pv 11)))
      (pss_cons (ps_expr (pe_bm PySem.F.plainAttrs_list PySem.F.slot_list_append PySem.F.type_list_append mt_append (pv 10) (pa_cons (pe_op op_addE (pv 4) (pe_call GWB hr1 (by rfl) DW.m DW.F.kp DW.b .nil pass0 (pa_cons (pv 1) (pa_cons (pe_op op_pow pe_int pe_int) pa_nil)))) pa_nil)))
      (pss_cons (ps_weak (tw := twW) (ps_if (pt_cmpR op_eq (pe_call GW hr1 (by rfl) DW.m DW.F.kp DW.b .nil pass0 (pa_cons (pv 1) (pa_cons pe_int pa_nil))) pe_int (nomark _))
      (pss_one (ps_set (i := 10) sc_law.nd rfl (.inl rfl) (pe_op op_cat (pe_lst (pa_cons (pe_op op_sub (pe_op op_sub pe_int pe_int) (pe_call GW hr1 (by rfl) DW.m DW.F.kp DW.b .nil pass0 (pa_cons (pv 1) (pa_cons pe_int pa_nil)))) pa_nil)) (pv 10))))
      pss_nil) ?W1)
      (pss_cons (ps_set (i := 8) sc_law.nd rfl (.inl rfl) (pe_callTy call_tuple_of (by rfl) z_tuple (by decide +kernel) (pa_cons (pe_callB cr_sorted (by rfl) z_sorted (by decide +kernel) (pa_cons (pe_op op_cat (pe_lc (g := gName 11) (tt := (tTest (tOp rEq (tCall spDraw [] E0 (tCons (tVar 1) (tCons (tC (.int 2)) tNil))) (tC (.int 0))))) (te := tVar 11) (own := [("_law_place", 11)]) (by rfl) sc_law.nd (pi_tup (pv 6)) (blkOk_by (N := n_law) (sc := defScope s_law) (by decide +kernel)) (fun _ _ _ _ _ => (pg_name (i := 11) sc_law.nd rfl (.inl rfl))) (fun _ _ _ _ _ => pts_one (pt_cmpR op_eq (pe_call GW hr1 (by rfl) DW.m DW.F.kp DW.b .nil pass0 (pa_cons (pv 1) (pa_cons pe_int pa_nil))) pe_int (nomark _))) (fun _ _ _ _ _ => (pv 11))) (pv 10)) pa_nil)) pa_nil)))
      (pss_one (ps_if (pt_cmpR op_ne (pe_callB (call_rpP gu hu101) (by rfl) z_repr (by decide +kernel) (pa_cons (pe_call (FnOk.any GR) hr (by rfl) DR.m DR.F.kp DR.b .nil pass0 (pa_cons (pv 5) (pa_cons (pv 2) (pa_cons (pv 8) pa_nil)))) pa_nil)) (pe_callB (call_rpP gu hu101) (by rfl) z_repr (by decide +kernel) (pa_cons (pe_ix ix_list (pv 10) pe_int (fun _ _ => rfl)) pa_nil)) (nomark _))
      (pss_one (ps_ret pe_bl))
      pss_nil)))))))))
      (pss_one (ps_ret pe_bl)))))), ?_⟩
  case W1 =>
    rintro Dd σ H1 ⟨D, L, W, n, ws, e1, e10, hd, hn, gW, nW, lw, q⟩
    refine ⟨_, e1, D, L, n, 3, rfl, hd, by omega, by decide, by decide, fun H2 r k2 d2 r0 r1 => ⟨rfl, _, rfl, ?_⟩⟩
    rw [cmpInt]
    have c2 := deck_ch hd d2 k2
    by_cases c : r = 0
    · rw [decide_eq_true c]
      refine iteT ⟨_, _, rfl, rfl, _, e1, D, L, n + 1, 50, rfl, d2, by omega, by decide, by decide, fun H3 r2 k3 d3 r20 r21 => ⟨_, _, rfl, rfl, Nat.le_of_ble_eq_true rfl, fun p np => ?_⟩⟩
      have c3 := deck_ch d2 d3 k3
      have s4 := Same.up (o := HO.lst [V.int (0 - 1 - r2)]) np
      have gp : upd H3 p (HO.lst [V.int (0 - 1 - r2)]) p = some (.lst [V.int (0 - 1 - r2)]) := upd_same
      have d4 := d3.kp (Kp.same (S := []) s4) (fun z => nomatch z) (fun z => nomatch z)
      generalize upd H3 p (HO.lst [V.int (0 - 1 - r2)]) = H4 at s4 gp d4 ⊢
      have gW4 := s4 _ _ (k3 _ _ nW (k2 _ _ nW gW))
      refine ⟨_, e10, p, W, _, _, rfl, rfl, gp, gW4, Nat.le_of_lt (lt_line (by rw [List.length_map]; show 1 + _ < _; omega)), fun p2 np2 => ?_⟩
      have s5 := Same.up (o := HO.lst ([V.int (0 - 1 - r2)] ++ ws.map V.int)) np2
      exact q _ p2 ((0 - 1 - r2) :: ws) (c2.trans (c3.trans ((Ch.same s4).trans (Ch.same s5)))) (d4.kp (Kp.same (S := []) s5) (fun z => nomatch z) (fun z => nomatch z)) upd_same (by simpa using d4.neD np2) (.inr ⟨r2, r20, r21, by rw [show (0 : Int) - 1 - r2 = -1 - r2 by omega]⟩)
    · rw [decide_eq_false c]
      have z := q H2 W ws c2 (d2.mono (by omega)) (k2 _ _ nW gW) nW (.inl rfl)
      rw [set_same e10] at z
      exact iteF z
  have hC : cB (4 + 1) + cB 3 + 200 < 10 ^ 9 := by decide
  refine ⟨_, rfl, a, ns, rfl, hS, hlen, fun H1 D L s1 hD nD nL => ?_⟩
  refine ⟨_, rfl, line1000 (Nat.le_of_ble_eq_true rfl), fun Sh nSh => ?_⟩
  have sS := Same.up (o := HO.lst [V.int 12, V.int 4, V.int 1]) nSh
  have nSh' : Sh ∉ [D, L] := by simpa using hD.neD nSh
  have hDs := hD.kp (Kp.same (S := []) sS) (fun z => nomatch z) (fun z => nomatch z)
  refine ⟨D, L, Sh, _, 12, 1, rfl, hDs, by omega, upd_same, nSh', ⟨by decide, by decide⟩, ⟨by decide, by decide⟩, fun H3 v g blk ins k3 hD3 td hg hin bin hok hsz hwt => ?_⟩
  have hok : ∀ s ∈ blk, StaOk 4 s := hok
  have hok5 : ∀ s ∈ blk, StaOk 5 s := fun s hs => staOk_mono (by decide) (hok s hs)
  have nest : ∀ s ∈ blk, NestOk 5 s := fun s hs => nest_of (hok5 s hs)
  obtain ⟨t, xs, rfl, gt, e0⟩ := td_tup td
  obtain ⟨v1, xs, rfl, d1, e1⟩ := tds_cons e0
  obtain ⟨v2, xs, rfl, d2, e2⟩ := tds_cons e1
  cases e2
  refine ⟨t, _, rfl, SqT.of gt, rfl, _, _, rfl, _, _, rfl, rfl, ?_⟩
  have tdp := d1
  obtain ⟨p, xs, rfl, gp, p0⟩ := td_tup d1
  obtain ⟨vg, xs, rfl, dg, p1⟩ := tds_cons p0
  cases dg
  obtain ⟨vb, rfl, tdb⟩ := tds1 p1
  refine ⟨_, rfl, p, _, _, _, rfl, rfl, SqT.of gp, atI_nat (j := 1) rfl, vb, blk, rfl, tdb, nest, by omega, fun H4 s4 => ?_⟩
  have hD4 := (hD3.kp (Kp.same (S := []) s4) (fun z => nomatch z) (fun z => nomatch z)).mono (show _ ≤ 10 ^ 9 by omega)
  refine fun a1 x1 m1 m2 m3 => fun a2 x2 m4 m5 m6 => fun a3 x3 m7 m8 m9 => ⟨line1000 (Nat.le_of_ble_eq_true rfl), fun Lf nLf => ?_⟩
  have sA := inst_same (C := cO .K) m1 m2 m3
  have gA1 : upd (upd H4 x1 (.own a1)) a1 (.ins (cO .K) x1 []) a1 = some (.ins (cO .K) x1 []) := upd_same
  have nA1 : a1 ∉ [D, L] := by simpa using hD4.neD m1
  have dA := hD4.kp (Kp.same (S := []) sA) (fun z => nomatch z) (fun z => nomatch z)
  generalize upd (upd H4 x1 (.own a1)) a1 (.ins (cO .K) x1 []) = HA at sA gA1 dA m4 m5 m7 m8 nLf ⊢
  have sB := inst_same (C := cO .S) m4 m5 m6
  have gB2 : upd (upd HA x2 (.own a2)) a2 (.ins (cO .S) x2 []) a2 = some (.ins (cO .S) x2 []) := upd_same
  have nA2 : a2 ∉ [D, L] := by simpa using dA.neD m4
  have dB := dA.kp (Kp.same (S := []) sB) (fun z => nomatch z) (fun z => nomatch z)
  generalize upd (upd HA x2 (.own a2)) a2 (.ins (cO .S) x2 []) = HB at sB gB2 dB m7 m8 nLf ⊢
  have sC := inst_same (C := cO .F) m7 m8 m9
  have gC3 : upd (upd HB x3 (.own a3)) a3 (.ins (cO .F) x3 []) a3 = some (.ins (cO .F) x3 []) := upd_same
  have nA3 : a3 ∉ [D, L] := by simpa using dB.neD m7
  have dC := dB.kp (Kp.same (S := []) sC) (fun z => nomatch z) (fun z => nomatch z)
  generalize upd (upd HB x3 (.own a3)) a3 (.ins (cO .F) x3 []) = HC at sC gC3 dC nLf ⊢
  have sL := Same.up (o := HO.lst [V.ref a1, V.ref a2, V.ref a3]) nLf
  have gLf : upd HC Lf (HO.lst [V.ref a1, V.ref a2, V.ref a3]) Lf = some (.lst [V.ref a1, V.ref a2, V.ref a3]) := upd_same
  have nLf' : Lf ∉ [D, L] := by simpa using dC.neD nLf
  have dL := dC.kp (Kp.same (S := []) sL) (fun z => nomatch z) (fun z => nomatch z)
  generalize upd HC Lf (HO.lst [V.ref a1, V.ref a2, V.ref a3]) = Hb at sL gLf dL ⊢
  have s4b := Same.trans sA (Same.trans sB (Same.trans sC sL))
  have gpb := s4b _ _ (s4 _ _ gp)
  have tdpb := TD.ch (Ch.same (S := []) (Same.trans s4 s4b)) _ _ tdp
  have tdbb := TD.ch (Ch.same (S := []) (Same.trans s4 s4b)) _ _ tdb
  have inst : ∀ (j : Nat) (x : V), [V.ref a1, V.ref a2, V.ref a3][j]? = some x → ∃ (k : Kd) (b dx : Addr), x = .ref b ∧ Hb b = some (.ins (cO k) dx []) ∧ b ∉ [D, L] := fun j x hx => by
    match j, hx with
    | 0, hx => cases hx; exact ⟨.K, a1, x1, rfl, sL _ _ (sC _ _ (sB _ _ gA1)), nA1⟩
    | 1, hx => cases hx; exact ⟨.S, a2, x2, rfl, sL _ _ (sC _ _ gB2), nA2⟩
    | 2, hx => cases hx; exact ⟨.F, a3, x3, rfl, sL _ _ gC3, nA3⟩
    | j + 3, hx => cases hx
  clear m1 m2 m3 m4 m5 m6 m7 m8 m9 gA1 gB2 gC3 dA dB dC sA sB sC sL nA1 nA2 nA3 nLf td e0 e1 gt p0 p1
  refine ⟨Lf, rfl, ⟨_, SqL.of gLf⟩, for_list (xs := [V.ref a1, V.ref a2, V.ref a3]) (fun j σ H' => Ch [D, L] Hb H' ∧ Deck H' D L (10 ^ 9 + j * 1000) ∧ ∃ (y5 y6 y7 y8 y9 y10 y11 : Option V), σ = [some (.ref a), some (.ref D), some (.ref p), some v2, some (.int (szB blk)), y5, y6, y7, y8, y9, y10, y11])
    ⟨Ch.refl _ _, dL.mono (by omega), none, none, none, none, none, none, none, rfl⟩ (fun j σ H' _ h => SqL.of (h.1.kp _ _ nLf' gLf)) ?_ ?_⟩
  · rintro j x σ H5 hx ⟨c5, d5, y5, y6, y7, y8, y9, y10, y11, rfl⟩
    have hj : j < 3 := (List.getElem?_eq_some_iff.mp hx).1
    obtain ⟨k, b, dx, rfl, gb, nb⟩ := inst j x hx
    have lk := plsLen_of blk k
    refine ⟨_, rfl, k, b, dx, [], rfl, c5.kp _ _ nb gb, rfl, _, rfl, _, _, g, blk, rfl, TD.ch c5 _ _ tdpb, nest, by omega, fun H6 kn s6 gk => ?_⟩
    have c6 := c5.trans (Ch.same (S := [D, L]) s6)
    have d6 := d5.kp (Kp.same (S := []) s6) (fun z => nomatch z) (fun z => nomatch z)
    refine ⟨line1000 (Nat.le_of_ble_eq_true rfl), fun Lp nLp => ?_⟩
    have nLp' : Lp ∉ [D, L] := by simpa using d6.neD nLp
    have s7 := Same.up (o := HO.lst [V.int 1, V.int 2, V.int 3]) nLp
    have gLp : upd H6 Lp (HO.lst [V.int 1, V.int 2, V.int 3]) Lp = some (.lst [V.int 1, V.int 2, V.int 3]) := upd_same
    have c7 := c6.trans (Ch.same (S := [D, L]) s7)
    have d7 := d6.kp (Kp.same (S := []) s7) (fun z => nomatch z) (fun z => nomatch z)
    have gk7 := s7 _ _ gk
    generalize upd H6 Lp (HO.lst [V.int 1, V.int 2, V.int 3]) = H7 at s7 gLp c7 d7 gk7 ⊢
    refine ⟨Lp, rfl, ⟨_, SqL.of gLp⟩, for_list (xs := [V.int 1, V.int 2, V.int 3]) (fun i σ H' => Ch [D, L] H7 H' ∧ Deck H' D L (10 ^ 9 + j * 1000 + i * 100) ∧ ∃ (z7 z8 z9 : Option V), σ = [some (.ref a), some (.ref D), some (.ref p), some v2, some (.int (szB blk)), some (.ref b), some (.ref kn), z7, z8, z9, y10, y11])
      ⟨Ch.refl _ _, d7.mono (by omega), y7, y8, y9, rfl⟩ (fun i σ H' _ h => SqL.of (h.1.kp _ _ nLp' gLp)) ?_ ?_⟩
    · rintro i x σ H8 hx ⟨c8, d8, z7, z8, z9, rfl⟩
      have hm : ∃ m : Int, x = .int m ∧ 1 ≤ m ∧ m < 1073741824 := by
        match i, hx with
        | 0, hx => cases hx; exact ⟨1, rfl, by decide, by decide⟩
        | 1, hx => cases hx; exact ⟨2, rfl, by decide, by decide⟩
        | 2, hx => cases hx; exact ⟨3, rfl, by decide, by decide⟩
        | i + 3, hx => cases hx
      have hi3 : i < 3 := (List.getElem?_eq_some_iff.mp hx).1
      obtain ⟨m, rfl, hm⟩ := hm
      have gk8 := c8.tu _ _ gk7
      refine ⟨_, rfl, kn, rfl, ⟨_, SqT.of gk8⟩, fun U nU => lc_pick (m := m) gk8 d8 nU hm (by omega) (by omega) (fun _ => rfl) (fun _ => rfl) (fun _ => rfl) (fun x H Q q => ⟨_, rfl, q⟩) fun H9 qs c9 d9 gU lq hq => ⟨U, _, rfl, .inl ⟨SqL.of gU, fun tp ntp => ?_⟩⟩⟩
      have s10 := Same.up (o := HO.tup (qs.map V.int)) ntp
      have gtp : upd H9 tp (HO.tup (qs.map V.int)) tp = some (.tup (qs.map V.int)) := upd_same
      have c10 := (c7.trans c8).trans (c9.trans (Ch.same (S := [D, L]) s10))
      have c10' := c8.trans (c9.trans (Ch.same (S := [D, L]) s10))
      have d10 := d9.kp (Kp.same (S := []) s10) (fun z => nomatch z) (fun z => nomatch z)
      generalize upd H9 tp (HO.tup (qs.map V.int)) = Ha at s10 gtp c10 c10' d10 ⊢
      have gb10 := c10.kp _ _ nb gb
      have gp10 := c10.tu _ _ gpb
      have tdb10 := TD.ch c10 _ _ tdbb
      have tdp10 := TD.ch c10 _ _ tdpb
      refine ⟨_, rfl, p, _, _, _, rfl, rfl, SqT.of gp10, atI_nat (j := 0) rfl, _, rfl, _, rfl, p, _, _, _, rfl, rfl, SqT.of gp10, atI_nat (j := 1) rfl, _, rfl, k, b, dx, vb, blk, 0, tp, qs, rfl, gb10, tdb10, nest, by omega, gtp, fun Hc pf sc tdf => ⟨line1000 (Nat.le_of_ble_eq_true rfl), fun td ntd => ?_⟩⟩
      have s11 := Same.up (o := HO.tup [V.int g, V.ref pf]) ntd
      have tdd : TD (upd Hc td (HO.tup [V.int g, V.ref pf])) (.ref td) (dAp (mkOf k) (inP qs) g blk) := .tup upd_same (.cons (.int _) (.cons (TD.ch (Ch.same (S := []) s11) _ _ tdf) .nil))
      generalize upd Hc td (HO.tup [V.int g, V.ref pf]) = Hd at s11 tdd ⊢
      have s12 := Same.trans sc s11
      have hbad : badP (plsOf k blk) qs = none := List.find?_eq_none.mpr fun y hy => by simpa using hq y hy
      have sh := showy_dAp (S := inP qs) (g := g) (mkSh_of k) hg hok5 (by omega : sizeB blk ≤ 100)
      refine ⟨_, rfl, k, b, dx, [], rfl, s12 _ _ gb10, rfl, _, rfl, _, rfl, b, dx, _, tp, g, blk, qs, rfl, s12 _ _ gb10, TD.ch (Ch.same (S := []) s12) _ _ tdp10, nest, by omega, s12 _ _ gtp, by omega, fun _ He pe se tde => ?_, fun y hy => (by rw [hbad] at hy; cases hy)⟩
      refine ⟨_, dAp (mkOf k) (inP qs) g blk, rfl, TD.dp _ _ tde, sh, _, rfl, _, dAp (mkOf k) (inP qs) g blk, rfl, TD.dp _ _ (TD.ch (Ch.same (S := []) se) _ _ tdd), sh, rfl, _, rfl, ?_⟩
      rw [decide_eq_true rfl]
      refine iteF ⟨c10'.trans ((Ch.same s12).trans (Ch.same se)), ?_, _, _, _, rfl⟩
      exact ((d10.kp (Kp.same (S := []) (Same.trans s12 se)) (fun z => nomatch z) (fun z => nomatch z))).mono (by omega)
    · rintro σ H8 ⟨c8, d8, z7, z8, z9, rfl⟩
      have gk8 := c8.tu _ _ gk7
      have d8 := d8.mono (show _ ≤ 10 ^ 9 + j * 1000 + 300 by show _ + 3 * 100 ≤ _; omega)
      have hcnt : szB blk = ((sizeB blk : Nat) : Int) := rfl
      refine ⟨_, rfl, _, rfl, by rw [hcnt]; omega, by rw [hcnt]; omega, fun U nU => lc_wrong (cnt := sizeB blk) gk8 d8 nU (by omega) (by omega) (fun _ => rfl) (fun _ => rfl) (fun _ => rfl) (fun _ => rfl) fun H9 ws c9 d9 gU lw hw pw => ?_⟩
      have nU' : U ∉ [D, L] := by simpa using d8.neD nU
      refine ⟨_, rfl, .inl ⟨rfl, _, SqL.of gU⟩, _, rfl, _, rfl, 10, 18, rfl, rfl, ⟨by omega, by omega, by decide⟩, D, L, _, _, rfl, d9, by omega, by decide +kernel, by decide +kernel, fun Ha r ka da r0 r1 => ⟨_, _, rfl, rfl, fun z ez => ⟨U, _, _, rfl, rfl, ka _ _ nU' gU, lt_line (by rw [List.length_map]; omega), ?_⟩⟩⟩
      have e18 : (10 : Int) ^ Int.toNat 18 = 1000000000000000000 := by decide +kernel
      rw [e18] at r1
      have ca := deck_ch d9 da ka
      have gUa := ka _ _ nU' gU
      have cb : Ch [U] Ha (upd Ha U (.lst (ws.map V.int ++ [V.int z]))) := (Ch.refl _ _).put (by simp) gUa (fun xs z => by cases z)
      have gUb : upd Ha U (.lst (ws.map V.int ++ [V.int z])) U = some (.lst ((ws ++ [z]).map V.int)) := by
        rw [upd_same, List.map_append]
        rfl
      have db := da.kp cb.kp (fun z => nU' (by simp [List.mem_singleton.mp z])) (fun z => nU' (by simp [List.mem_singleton.mp z]))
      generalize upd Ha U (.lst (ws.map V.int ++ [V.int z])) = Hb2 at cb gUb db ⊢
      have c8b : Ch [D, L] H8 Hb2 := by
        have z1 : Ch [U, D, L] H8 Hb2 := ((c9.trans ca).mono fun b hb => List.mem_cons_of_mem _ hb).trans (cb.mono fun b hb => by simp [List.mem_singleton.mp hb])
        exact z1.less nU
      have cBase := (c7.trans c8).trans c8b
      refine ⟨D, L, U, _, ws ++ [z], rfl, rfl, db, by omega, gUb, nU', by rw [List.length_append]; show _ + 1 ≤ _; omega, fun Hc W' ws' cc dc gW nW hws => ?_⟩
      have hkb : ∀ i ∈ plsOf k blk, 0 ≤ i ∧ i < szB blk := fun i hi => by
        have := plsOk_of k blk i hi
        rw [rowsP_len] at this
        exact this
      obtain ⟨w0, wr, rfl, hmin, hnot, habs⟩ := wrong_head hkb hw pw (z := z) (by omega) (by omega) (by omega) hws
      have lws : (w0 :: wr).length ≤ 31 := by
        rcases hws with e | ⟨_, _, _, e⟩
        · rw [e, List.length_append]; show _ + 1 ≤ _; omega
        · rw [e, List.length_cons, List.length_append]; show _ + 1 + 1 ≤ _; omega
      have cBc := cBase.trans cc
      have gkc := cc.tu _ _ (c8b.tu _ _ gk8)
      refine ⟨_, rfl, kn, rfl, ⟨_, SqT.of gkc⟩, fun U2 nU2 => lc_pick (m := 2) gkc dc nU2 (by decide) (by omega) (by omega) (fun _ => rfl) (fun _ => rfl) (fun _ => rfl) (fun x H Q q => q) fun Hd qs cd dd gU2 lq hq => ?_⟩
      have gWd := cd.kp _ _ nW gW
      refine ⟨_, rfl, U2, W', _, _, rfl, rfl, gU2, gWd, Nat.le_of_lt (lt_line (by rw [List.length_map, List.length_map]; omega)), fun p2 np2 => ?_⟩
      have s13 := Same.up (o := HO.lst (qs.map V.int ++ (w0 :: wr).map V.int)) np2
      have gp2 : upd Hd p2 (HO.lst (qs.map V.int ++ (w0 :: wr).map V.int)) p2 = some (.lst ((qs ++ w0 :: wr).map V.int)) := by rw [upd_same, List.map_append]
      generalize upd Hd p2 (HO.lst (qs.map V.int ++ (w0 :: wr).map V.int)) = He at s13 gp2 ⊢
      refine ⟨p2, qs ++ w0 :: wr, rfl, SqL.of gp2, by rw [List.length_append]; omega, fun so p3 perm asc np3 => ⟨p3, _, rfl, .inl ⟨SqL.of upd_same, fun tp ntp => ?_⟩⟩⟩
      have s14 := Same.up (o := HO.lst (so.map V.int)) np3
      have s15 := Same.up (o := HO.tup (so.map V.int)) ntp
      have gtp : upd (upd He p3 (HO.lst (so.map V.int))) tp (HO.tup (so.map V.int)) tp = some (.tup (so.map V.int)) := upd_same
      generalize upd (upd He p3 (HO.lst (so.map V.int))) tp (HO.tup (so.map V.int)) = Hf at s15 gtp ⊢
      have sdf := Same.trans s13 (Same.trans s14 s15)
      have cBf := (cBc.trans cd).trans (Ch.same (S := [D, L]) sdf)
      have lso : so.length ≤ 1000 := by rw [perm.length_eq, List.length_append]; omega
      have hbad := bad_sorted hq hnot perm asc hmin
      have shw : ShowyP (.int w0) 100 16000000 := (showy_intG (log_small (n := 2000000000000000000) habs (by decide)) 100).mono (Nat.le_refl _) (by decide)
      refine ⟨_, rfl, _, rfl, _, rfl, k, b, dx, _, tp, g, blk, so, w0, rfl, cBf.kp _ _ nb gb, TD.ch cBf _ _ tdpb, nest, by omega, gtp, lso, hbad, fun Hg sg => ?_⟩
      have gWg := sg _ _ (sdf _ _ gWd)
      refine ⟨_, .int w0, rfl, TD.dp _ _ (.int w0), shw, _, rfl, W', _, 0, _, rfl, rfl, SqL.of gWg, atI_nat (j := 0) rfl, _, .int w0, rfl, TD.dp _ _ (.int w0), shw, rfl, _, rfl, ?_⟩
      rw [decide_eq_true rfl]
      refine iteF ⟨cBf.trans (Ch.same sg), ?_, _, _, _, _, _, _, _, rfl⟩
      exact (dd.kp (Kp.same (S := []) (Same.trans sdf sg)) (fun z => nomatch z) (fun z => nomatch z)).mono (by omega)
  · rintro σ H5 ⟨c5, d5, y5, y6, y7, y8, y9, y10, y11, rfl⟩
    exact q H5
end
end G

set_option Elab.async false
set_option linter.all false
set_option maxRecDepth 100000
set_option maxHeartbeats 8000000
/-! The head of maybegone_k79_programs_fixed: what the Hook looks at, what follows from it. Written by mkHF.py. -/
namespace G
open PySem PySem.Spec PyProof.Rows L2 StX ClX
def fn : List He.DefD := ([dDef "is_integer" s_is_integer, dDef "blocks_of" s_blocks_of, dDef "rows_of" s_rows_of, dDef "placed_block" s_placed, dDef "size_of" s_size, dDef "_rebuilt_rows" s__rebuilt_rows, dDef "rebuilt" s_rebuilt, dDef "each_statement" s_each_statement, dDef "statement_at" s_statement_at, dDef "_places_with" s__places_with, dDef "make_places" s_make_places, dDef "weak_places" s_weak_places, dDef "_law_deck" s__law_deck, dDef "_law_draw" s__law_draw, dDef "_law_one" s__law_one, dDef "_law_names" s__law_names, dDef "_law_words" s__law_words, dDef "_law_test" s__law_test, dDef "_law_plain" s__law_plain, dDef "_law_body" s__law_body, dDef "_law_program" s__law_program, dDef "_law_count" s__law_count, dDef "_law_fixed" s__law_fixed, dDef "_law_refused" s__law_refused, dDef "law" s_law, dMet "NoPlace" "__init__" "NoPlace.__init__" s_ninit, dMet "Fix" "changed" "Fix.changed" s_chF, dMet "Keeps" "changed" "Keeps.changed" s_chK, dMet "Strongs" "changed" "Strongs.changed" s_chS, dMet "Fix" "places_of" "Fix.places_of" s_poF] : List _) ++ ([dMet "Keeps" "places_of" "Keeps.places_of" s_poK, dMet "Strongs" "places_of" "Strongs.places_of" s_poS, dMet "Fix" "applied" "Fix.applied" s_applied, dMet "Keeps" "applied" "Fix.applied" s_applied, dMet "Strongs" "applied" "Fix.applied" s_applied] : List _)
def fa : List He.Fa := ([.glo "is_integer", .glo "blocks_of", .glo "rows_of", .glo "placed_block", .glo "size_of", .glo "_rebuilt_rows", .glo "rebuilt", .glo "each_statement", .glo "statement_at", .glo "_places_with", .glo "make_places", .glo "weak_places", .glo "_law_deck", .glo "_law_draw", .glo "_law_one", .glo "_law_names", .glo "_law_words", .glo "_law_test", .glo "_law_plain", .glo "_law_body", .glo "_law_program", .glo "_law_count", .glo "_law_fixed", .glo "_law_refused", .glo "law", .meth "Fix" "changed", .meth "Keeps" "changed", .meth "Strongs" "changed", .meth "Fix" "places_of", .meth "Keeps" "places_of"] : List _) ++ ([.meth "Strongs" "places_of", .meth "Fix" "applied", .meth "Keeps" "applied", .meth "Strongs" "applied", .free "len", .free "abs", .free "int", .free "range", .free "sorted", .free "tuple", .free "dict", .glo "NoPlace", .glo "GoneError", .glo "NoVersion", .free "str", .free "isinstance", .free "bool", .free "enumerate", .glo "Keeps", .cls "Keeps", .glo "Strongs", .cls "Strongs", .glo "Fix", .cls "Fix", .free "sum", .free "list", .free "LookupError", .free "ValueError", .free "repr"] : List _)
def ts : List He.Tab := []
def ex (K : PySem.W.Frag) : Bool := ((PySem.W.makesIn K (He.ga K "Keeps") && (He.eqO (PySem.W.findIn K (.ref (He.ga K "Keeps")) "__init__") (some (some (.builtin "object.__init__"))) && PySem.W.keepIn K (.ref (He.ga K "Keeps")))) && ((PySem.W.makesIn K (He.ga K "Strongs") && (He.eqO (PySem.W.findIn K (.ref (He.ga K "Strongs")) "__init__") (some (some (.builtin "object.__init__"))) && PySem.W.keepIn K (.ref (He.ga K "Strongs")))) && (PySem.W.makesIn K (He.ga K "Fix") && (He.eqO (PySem.W.findIn K (.ref (He.ga K "Fix")) "__init__") (some (some (.builtin "object.__init__"))) && PySem.W.keepIn K (.ref (He.ga K "Fix")))))) && (ciB K (He.ga K "NoPlace") (He.ma K (He.ga K "NoPlace") "__init__") [.type "LookupError", .type "Exception", .type "BaseException", .type "object"] "LookupError.__new__" "place" &&
  (PySem.W.typeIn K (.ref (He.ga K "NoPlace")) == some (.type "type") && (PySem.W.exmOne K (.ref (He.ga K "NoPlace")) (.ref (He.ga K "NoPlace")) == some true && (PySem.W.kitOne K (.ref (He.ga K "NoPlace")) (.type "LookupError") == some true && PySem.W.kitAny K (.ref (He.ga K "NoPlace")) [.ref (He.ga K "GoneError"), .type "ValueError", .ref (He.ga K "NoVersion")] == some false))))
theorem facts {P : Program} {w : World} {K : PySem.W.Frag} {h : Heap} {mg : Str → Option Value} {f : Addr} (X : K.In h) (G : h.Ns mainGlobals mg) (hfa : mg ("law" : Str) = some (.ref f)) (cX : SaysS fa fn ts ex w K) :
    ∃ fd : FuncData, (∀ (s : Shared) (v : Value), BindsTo s fd ⟨[v], []⟩ [("_law_script", v)]) ∧ ∀ base : Heap, K.In base → base.Ns mainGlobals mg → FnOkG P w K mg base 18 f fd ["_law_script"] (spLawN K 63) := by
  have c := cX.t.d
  obtain ⟨dis_integer, Dis_integer⟩ := dfx (st := s_is_integer) (ps := ["value"]) X G c 0 0 (fun _ _ _ _ _ _ us hl => match us, hl with | [_], _ => rfl) rfl rfl
  obtain ⟨dblocks_of, Dblocks_of⟩ := dfx (st := s_blocks_of) (ps := ["statement"]) X G c 1 1 (fun _ _ _ _ _ _ us hl => match us, hl with | [_], _ => rfl) rfl rfl
  obtain ⟨drows_of, Drows_of⟩ := dfx (st := s_rows_of) (ps := ["block", "depth"]) X G c 2 2 (fun _ _ _ _ _ _ us hl => match us, hl with | [_, _], _ => rfl) rfl rfl
  obtain ⟨dplaced_block, Dplaced_block⟩ := dfx (st := s_placed) (ps := ["block", "first"]) X G c 3 3 (fun _ _ _ _ _ _ us hl => match us, hl with | [_, _], _ => rfl) rfl rfl
  obtain ⟨dsize_of, Dsize_of⟩ := dfx (st := s_size) (ps := ["block"]) X G c 4 4 (fun _ _ _ _ _ _ us hl => match us, hl with | [_], _ => rfl) rfl rfl
  obtain ⟨d_rebuilt_rows, D_rebuilt_rows⟩ := dfx (st := s__rebuilt_rows) (ps := ["rows", "standing"]) X G c 5 5 (fun _ _ _ _ _ _ us hl => match us, hl with | [_, _], _ => rfl) rfl rfl
  obtain ⟨drebuilt, Drebuilt⟩ := dfx (st := s_rebuilt) (ps := ["program", "standing"]) X G c 6 6 (fun _ _ _ _ _ _ us hl => match us, hl with | [_, _], _ => rfl) rfl rfl
  obtain ⟨deach_statement, Deach_statement⟩ := dfx (st := s_each_statement) (ps := ["program"]) X G c 7 7 (fun _ _ _ _ _ _ us hl => match us, hl with | [_], _ => rfl) rfl rfl
  obtain ⟨dstatement_at, Dstatement_at⟩ := dfx (st := s_statement_at) (ps := ["program", "place"]) X G c 8 8 (fun _ _ _ _ _ _ us hl => match us, hl with | [_, _], _ => rfl) rfl rfl
  obtain ⟨d_places_with, D_places_with⟩ := dfx (st := s__places_with) (ps := ["program", "word"]) X G c 9 9 (fun _ _ _ _ _ _ us hl => match us, hl with | [_, _], _ => rfl) rfl rfl
  obtain ⟨dmake_places, Dmake_places⟩ := dfx (st := s_make_places) (ps := ["program"]) X G c 10 10 (fun _ _ _ _ _ _ us hl => match us, hl with | [_], _ => rfl) rfl rfl
  obtain ⟨dweak_places, Dweak_places⟩ := dfx (st := s_weak_places) (ps := ["program"]) X G c 11 11 (fun _ _ _ _ _ _ us hl => match us, hl with | [_], _ => rfl) rfl rfl
  obtain ⟨d_law_deck, D_law_deck⟩ := dfx (st := s__law_deck) (ps := ["_law_script"]) X G c 12 12 (fun _ _ _ _ _ _ us hl => match us, hl with | [_], _ => rfl) rfl rfl
  obtain ⟨d_law_draw, D_law_draw⟩ := dfx (st := s__law_draw) (ps := ["_law_deck_here", "_law_many"]) X G c 13 13 (fun _ _ _ _ _ _ us hl => match us, hl with | [_, _], _ => rfl) rfl rfl
  obtain ⟨d_law_one, D_law_one⟩ := dfx (st := s__law_one) (ps := ["_law_deck_here", "_law_items"]) X G c 14 14 (fun _ _ _ _ _ _ us hl => match us, hl with | [_, _], _ => rfl) rfl rfl
  obtain ⟨d_law_names, D_law_names⟩ := dfx (st := s__law_names) (ps := ["_law_deck_here", "_law_count_here"]) X G c 15 15 (fun _ _ _ _ _ _ us hl => match us, hl with | [_, _], _ => rfl) rfl rfl
  obtain ⟨d_law_words, D_law_words⟩ := dfx (st := s__law_words) (ps := ["_law_deck_here", "_law_count_here"]) X G c 16 16 (fun _ _ _ _ _ _ us hl => match us, hl with | [_, _], _ => rfl) rfl rfl
  obtain ⟨d_law_test, D_law_test⟩ := dfx (st := s__law_test) (ps := ["_law_deck_here", "_law_pool", "_law_olds"]) X G c 17 17 (fun _ _ _ _ _ _ us hl => match us, hl with | [_, _, _], _ => rfl) rfl rfl
  obtain ⟨d_law_plain, D_law_plain⟩ := dfx (st := s__law_plain) (ps := ["_law_deck_here", "_law_pool", "_law_held"]) X G c 18 18 (fun _ _ _ _ _ _ us hl => match us, hl with | [_, _, _], _ => rfl) rfl rfl
  obtain ⟨d_law_body, D_law_body⟩ := dfx (st := s__law_body) (ps := ["_law_deck_here", "_law_pool", "_law_held", "_law_left", "_law_shape"]) X G c 19 19 (fun _ _ _ _ _ _ us hl => match us, hl with | [_, _, _, _, _], _ => rfl) rfl rfl
  obtain ⟨d_law_program, D_law_program⟩ := dfx (st := s__law_program) (ps := ["_law_deck_here", "_law_shape"]) X G c 20 20 (fun _ _ _ _ _ _ us hl => match us, hl with | [_, _], _ => rfl) rfl rfl
  obtain ⟨d_law_count, D_law_count⟩ := dfx (st := s__law_count) (ps := ["_law_block"]) X G c 21 21 (fun _ _ _ _ _ _ us hl => match us, hl with | [_], _ => rfl) rfl rfl
  obtain ⟨d_law_fixed, D_law_fixed⟩ := dfx (st := s__law_fixed) (ps := ["_law_fix", "_law_block", "_law_place", "_law_places"]) X G c 22 22 (fun _ _ _ _ _ _ us hl => match us, hl with | [_, _, _, _], _ => rfl) rfl rfl
  obtain ⟨d_law_refused, D_law_refused⟩ := dfx (st := s__law_refused) (ps := ["_law_fix", "_law_program_here", "_law_places"]) X G c 23 23 (fun _ _ _ _ _ _ us hl => match us, hl with | [_, _, _], _ => rfl) rfl rfl
  obtain ⟨dlaw, Dlaw⟩ := dfx (st := s_law) (ps := ["_law_script"]) X G c 24 24 (fun _ _ _ _ _ _ us hl => match us, hl with | [_], _ => rfl) rfl rfl
  obtain ⟨dNI, FNI, BNI⟩ := inx (st := s_ninit) (ps := ["self", "place"]) c 25 (fun _ _ _ _ _ _ us hl => match us, hl with | [_, _], _ => rfl) rfl
  obtain ⟨dcF, McF⟩ := mdx (st := s_chF) (ps := ["self", "statement"]) c 26 25 (fun _ _ _ _ _ _ us hl => match us, hl with | [_, _], _ => rfl) rfl rfl
  obtain ⟨dcK, McK⟩ := mdx (st := s_chK) (ps := ["self", "statement"]) c 27 26 (fun _ _ _ _ _ _ us hl => match us, hl with | [_, _], _ => rfl) rfl rfl
  obtain ⟨dcS, McS⟩ := mdx (st := s_chS) (ps := ["self", "statement"]) c 28 27 (fun _ _ _ _ _ _ us hl => match us, hl with | [_, _], _ => rfl) rfl rfl
  obtain ⟨dpF, MpF⟩ := mdx (st := s_poF) (ps := ["self", "program"]) c 29 28 (fun _ _ _ _ _ _ us hl => match us, hl with | [_, _], _ => rfl) rfl rfl
  obtain ⟨dpK, MpK⟩ := mdx (st := s_poK) (ps := ["self", "program"]) c 30 29 (fun _ _ _ _ _ _ us hl => match us, hl with | [_, _], _ => rfl) rfl rfl
  obtain ⟨dpS, MpS⟩ := mdx (st := s_poS) (ps := ["self", "program"]) c 31 30 (fun _ _ _ _ _ _ us hl => match us, hl with | [_, _], _ => rfl) rfl rfl
  obtain ⟨daF, MaF⟩ := mdx (st := s_applied) (ps := ["self", "program", "places"]) c 32 31 (fun _ _ _ _ _ _ us hl => match us, hl with | [_, _, _], _ => rfl) rfl rfl
  obtain ⟨daK, MaK⟩ := mdx (st := s_applied) (ps := ["self", "program", "places"]) c 33 32 (fun _ _ _ _ _ _ us hl => match us, hl with | [_, _, _], _ => rfl) rfl rfl
  obtain ⟨daS, MaS⟩ := mdx (st := s_applied) (ps := ["self", "program", "places"]) c 34 33 (fun _ _ _ _ _ _ us hl => match us, hl with | [_, _, _], _ => rfl) rfl rfl
  have TB : Bi mg := ⟨(He.free_ok X G (c.fact 34 rfl)), (He.free_ok X G (c.fact 35 rfl)), (He.free_ok X G (c.fact 36 rfl)), (He.free_ok X G (c.fact 37 rfl))⟩
  have e := hfa.symm.trans Dlaw.m
  cases e
  refine ⟨dlaw, fun s v => ?_, fun base _ _ => ?_⟩
  · obtain ⟨oc, od, kV, doc, pm, an, cdv, ct, osl, rfl, _⟩ := Dlaw.F.ex
    exact .of_eq rfl
  have m0 := cX.more
  obtain ⟨n0, m0⟩ := He.ba m0
  obtain ⟨m1, n0⟩ := He.ba n0
  obtain ⟨m2, m3⟩ := He.ba n0
  obtain ⟨e1, m0⟩ := He.ba m0
  obtain ⟨e2, m0⟩ := He.ba m0
  obtain ⟨e3, m0⟩ := He.ba m0
  obtain ⟨e4, e5⟩ := He.ba m0
  have mk_ : ∀ x : Str, (PySem.W.makesIn K (He.ga K x) && (He.eqO (PySem.W.findIn K (.ref (He.ga K x)) "__init__") (some (some (.builtin "object.__init__"))) && PySem.W.keepIn K (.ref (He.ga K x)))) = true → Mk0 K (He.ga K x) := fun x hx => by
    obtain ⟨h1, h2⟩ := He.ba hx
    obtain ⟨h2, h3⟩ := He.ba h2
    exact ⟨h1, He.eqO_ok h2, h3⟩
  have mkK := mk_ "Keeps" m1
  have mkS := mk_ "Strongs" m2
  have mkF := mk_ "Fix" m3
  obtain ⟨emN, esN, nfN⟩ := ci_of baseLE e1
  have NX : NPx P w K mg base (He.ga K "NoPlace") := ⟨⟨_, dNI, emN, ok_ninit FNI, BNI⟩, esN, nfN, (He.glo_ok X G (c.fact 41 rfl)), beq_iff_eq.mp e2⟩
  have NZ : NPz K mg (He.ga K "NoPlace") (He.ga K "GoneError") (He.ga K "NoVersion") := ⟨(He.glo_ok X G (c.fact 42 rfl)), (He.glo_ok X G (c.fact 43 rfl)), beq_iff_eq.mp e4, beq_iff_eq.mp e5, beq_iff_eq.mp e3⟩
  have G1 := ok_deck (k := 0) (P := P) (w := w) (base := base) D_law_deck.F TB
  have G2 := ok_draw (k := 0) (P := P) (w := w) (base := base) D_law_draw.F TB
  have G2B := ok_drawB (k := 0) (P := P) (w := w) (base := base) D_law_draw.F TB
  have G3 := ok_one D_law_one.F TB G2 D_law_draw.F.kp D_law_draw.b D_law_draw.m
  have G4 := ok_names D_law_names.F TB (He.free_ok X G (c.fact 44 rfl)) ⟨D_law_draw.F, D_law_draw.b, D_law_draw.m⟩ G2 ⟨D_law_one.F, D_law_one.b, D_law_one.m⟩ G3
  have G5 := ok_words D_law_words.F TB ⟨D_law_draw.F, D_law_draw.b, D_law_draw.m⟩ G2 ⟨D_law_one.F, D_law_one.b, D_law_one.m⟩ G3
  have G6 := ok_test D_law_test.F TB ⟨D_law_draw.F, D_law_draw.b, D_law_draw.m⟩ G2 ⟨D_law_one.F, D_law_one.b, D_law_one.m⟩ G3
  have G7 := ok_plain D_law_plain.F TB (He.free_ok X G (c.fact 38 rfl)) ⟨D_law_draw.F, D_law_draw.b, D_law_draw.m⟩ G2 ⟨D_law_one.F, D_law_one.b, D_law_one.m⟩ G3 ⟨D_law_test.F, D_law_test.b, D_law_test.m⟩ G6
  have B0 := ok_body0 (P := P) (w := w) (mg := mg) (base := base) (k := 3) D_law_body.F
  have B1 := ok_body (r := 0) (by decide) (by decide) D_law_body.F TB (He.free_ok X G (c.fact 38 rfl)) (He.free_ok X G (c.fact 39 rfl)) (He.free_ok X G (c.fact 40 rfl)) ⟨D_law_draw.F, D_law_draw.b, D_law_draw.m⟩ G2 ⟨D_law_one.F, D_law_one.b, D_law_one.m⟩ G3 ⟨D_law_test.F, D_law_test.b, D_law_test.m⟩ G6 ⟨D_law_plain.F, D_law_plain.b, D_law_plain.m⟩ G7 D_law_body.m D_law_body.b B0
  have B2 := ok_body (r := 1) (by decide) (by decide) D_law_body.F TB (He.free_ok X G (c.fact 38 rfl)) (He.free_ok X G (c.fact 39 rfl)) (He.free_ok X G (c.fact 40 rfl)) ⟨D_law_draw.F, D_law_draw.b, D_law_draw.m⟩ G2 ⟨D_law_one.F, D_law_one.b, D_law_one.m⟩ G3 ⟨D_law_test.F, D_law_test.b, D_law_test.m⟩ G6 ⟨D_law_plain.F, D_law_plain.b, D_law_plain.m⟩ G7 D_law_body.m D_law_body.b B1
  have B3 := ok_body (r := 2) (by decide) (by decide) D_law_body.F TB (He.free_ok X G (c.fact 38 rfl)) (He.free_ok X G (c.fact 39 rfl)) (He.free_ok X G (c.fact 40 rfl)) ⟨D_law_draw.F, D_law_draw.b, D_law_draw.m⟩ G2 ⟨D_law_one.F, D_law_one.b, D_law_one.m⟩ G3 ⟨D_law_test.F, D_law_test.b, D_law_test.m⟩ G6 ⟨D_law_plain.F, D_law_plain.b, D_law_plain.m⟩ G7 D_law_body.m D_law_body.b B2
  have B4 := ok_body (r := 3) (by decide) (by decide) D_law_body.F TB (He.free_ok X G (c.fact 38 rfl)) (He.free_ok X G (c.fact 39 rfl)) (He.free_ok X G (c.fact 40 rfl)) ⟨D_law_draw.F, D_law_draw.b, D_law_draw.m⟩ G2 ⟨D_law_one.F, D_law_one.b, D_law_one.m⟩ G3 ⟨D_law_test.F, D_law_test.b, D_law_test.m⟩ G6 ⟨D_law_plain.F, D_law_plain.b, D_law_plain.m⟩ G7 D_law_body.m D_law_body.b B3
  have B5 := ok_body (r := 4) (by decide) (by decide) D_law_body.F TB (He.free_ok X G (c.fact 38 rfl)) (He.free_ok X G (c.fact 39 rfl)) (He.free_ok X G (c.fact 40 rfl)) ⟨D_law_draw.F, D_law_draw.b, D_law_draw.m⟩ G2 ⟨D_law_one.F, D_law_one.b, D_law_one.m⟩ G3 ⟨D_law_test.F, D_law_test.b, D_law_test.m⟩ G6 ⟨D_law_plain.F, D_law_plain.b, D_law_plain.m⟩ G7 D_law_body.m D_law_body.b B4
  have G9 := ok_program (r := 4) (k1 := 9) (k2 := 7) (by decide) (by decide) (by decide) D_law_program.F TB (He.free_ok X G (c.fact 39 rfl)) (He.free_ok X G (c.fact 40 rfl)) ⟨D_law_draw.F, D_law_draw.b, D_law_draw.m⟩ G2 ⟨D_law_one.F, D_law_one.b, D_law_one.m⟩ G3 ⟨D_law_names.F, D_law_names.b, D_law_names.m⟩ G4 ⟨D_law_words.F, D_law_words.b, D_law_words.m⟩ G5 ⟨D_law_body.F, D_law_body.b, D_law_body.m⟩ B5 B3
  have T1 := ok_int (P := P) (w := w) (base := base) Dis_integer.F (He.free_ok X G (c.fact 45 rfl)) (He.free_ok X G (c.fact 36 rfl)) (He.free_ok X G (c.fact 46 rfl))
  have T2 := ok_bo (P := P) (w := w) (base := base) (mg := mg) (k := 0) Dblocks_of.F
  have T3 := ok_roAll ⟨Drows_of.F, Drows_of.b, Drows_of.m⟩ ⟨Dblocks_of.F, Dblocks_of.b, Dblocks_of.m⟩ T2
  have T4 := ok_es Deach_statement.F (He.free_ok X G (c.fact 47 rfl)) ⟨Drows_of.F, Drows_of.b, Drows_of.m⟩ T3
  have T6 := ok_sa Dstatement_at.F (He.free_ok X G (c.fact 34 rfl)) NX ⟨Drows_of.F, Drows_of.b, Drows_of.m⟩ T3 ⟨Dis_integer.F, Dis_integer.b, Dis_integer.m⟩ T1
  have T10 := ok_pw D_places_with.F (He.free_ok X G (c.fact 39 rfl)) ⟨Deach_statement.F, Deach_statement.b, Deach_statement.m⟩ T4
  have T11 := ok_mp Dmake_places.F ⟨D_places_with.F, D_places_with.b, D_places_with.m⟩ T10
  have T12 := ok_wp Dweak_places.F ⟨D_places_with.F, D_places_with.b, D_places_with.m⟩ T10
  have T13 := ok_size Dsize_of.F (He.free_ok X G (c.fact 34 rfl)) ⟨Drows_of.F, Drows_of.b, Drows_of.m⟩ T3
  have T14 := ok_placedAll ⟨Dplaced_block.F, Dplaced_block.b, Dplaced_block.m⟩ ⟨Dblocks_of.F, Dblocks_of.b, Dblocks_of.m⟩ T2 ⟨Dsize_of.F, Dsize_of.b, Dsize_of.m⟩ T13
  have T15 := ok_rbAll (P := P) (w := w) (base := base) ⟨D_rebuilt_rows.F, D_rebuilt_rows.b, D_rebuilt_rows.m⟩ (He.free_ok X G (c.fact 39 rfl))
  have T16 := ok_rebuilt Drebuilt.F ⟨D_rebuilt_rows.F, D_rebuilt_rows.b, D_rebuilt_rows.m⟩ T15 ⟨Dplaced_block.F, Dplaced_block.b, Dplaced_block.m⟩ T14
  have XK : FixC P w K mg base "Keeps" (He.ga K "Keeps") chK (spPO "make") := ⟨(He.glo_ok X G (c.fact 48 rfl)), mkK, (He.cls_ok (c.fact 49 rfl)), ⟨_, _, McK.m, ok_chK McK.F, McK.b⟩, ⟨_, _, 12, by decide, MpK.m, ok_poK MpK.F ⟨Dmake_places.F, Dmake_places.b, Dmake_places.m⟩ T11, MpK.b⟩⟩
  have XS : FixC P w K mg base "Strongs" (He.ga K "Strongs") chS (spPO "weak") := ⟨(He.glo_ok X G (c.fact 50 rfl)), mkS, (He.cls_ok (c.fact 51 rfl)), ⟨_, _, McS.m, ok_chS McS.F, McS.b⟩, ⟨_, _, 12, by decide, MpS.m, ok_poS MpS.F ⟨Dweak_places.F, Dweak_places.b, Dweak_places.m⟩ T12, MpS.b⟩⟩
  have XF : FixC P w K mg base "Fix" (He.ga K "Fix") chF spPO0 := ⟨(He.glo_ok X G (c.fact 52 rfl)), mkF, (He.cls_ok (c.fact 53 rfl)), ⟨_, _, McF.m, ok_chF McF.F, McF.b⟩, ⟨_, _, 1, by decide, MpF.m, ok_poF MpF.F, MpF.b⟩⟩
  have ZK : FixK P w K mg base (He.ga K "Keeps") (mkOf .K) (plsOf .K) := XK.k mkOk_K plsOk_K (kn_of fun _ => rfl)
  have ZS : FixK P w K mg base (He.ga K "Strongs") (mkOf .S) (plsOf .S) := XS.k mkOk_S plsOk_S (kn_of fun _ => rfl)
  have ZF : FixK P w K mg base (He.ga K "Fix") (mkOf .F) (plsOf .F) := XF.k mkOk_F plsOk_F kn_of0
  have AK := ok_applied MaK.F NX ZK ⟨Drebuilt.F, Drebuilt.b, Drebuilt.m⟩ T16 ⟨Dstatement_at.F, Dstatement_at.b, Dstatement_at.m⟩ T6
  have AS := ok_applied MaS.F NX ZS ⟨Drebuilt.F, Drebuilt.b, Drebuilt.m⟩ T16 ⟨Dstatement_at.F, Dstatement_at.b, Dstatement_at.m⟩ T6
  have AF := ok_applied MaF.F NX ZF ⟨Drebuilt.F, Drebuilt.b, Drebuilt.m⟩ T16 ⟨Dstatement_at.F, Dstatement_at.b, Dstatement_at.m⟩ T6
  have LC := ok_countAll (P := P) (w := w) (base := base) ⟨D_law_count.F, D_law_count.b, D_law_count.m⟩ (He.free_ok X G (c.fact 54 rfl))
  have XKZ : FnOk P w K mg base CX0 7 (He.ga K "_law_fixed") d_law_fixed p__law_fixed (spFx' (He.ga K "Keeps") (mkOf .K) 0) := ⟨fun _ _ _ _ h => h.elim, fun _ _ _ _ _ _ _ _ _ _ _ _ _ h => h.elim⟩
  have XK0 := ok_fixed (d := 0) (by decide) (by decide) D_law_fixed.F (He.free_ok X G (c.fact 39 rfl)) (He.free_ok X G (c.fact 55 rfl)) ZK ⟨D_law_count.F, D_law_count.b, D_law_count.m⟩ LC D_law_fixed.m D_law_fixed.F.kp D_law_fixed.b XKZ
  have XK1 := ok_fixed (d := 1) (by decide) (by decide) D_law_fixed.F (He.free_ok X G (c.fact 39 rfl)) (He.free_ok X G (c.fact 55 rfl)) ZK ⟨D_law_count.F, D_law_count.b, D_law_count.m⟩ LC D_law_fixed.m D_law_fixed.F.kp D_law_fixed.b XK0
  have XK2 := ok_fixed (d := 2) (by decide) (by decide) D_law_fixed.F (He.free_ok X G (c.fact 39 rfl)) (He.free_ok X G (c.fact 55 rfl)) ZK ⟨D_law_count.F, D_law_count.b, D_law_count.m⟩ LC D_law_fixed.m D_law_fixed.F.kp D_law_fixed.b XK1
  have XK3 := ok_fixed (d := 3) (by decide) (by decide) D_law_fixed.F (He.free_ok X G (c.fact 39 rfl)) (He.free_ok X G (c.fact 55 rfl)) ZK ⟨D_law_count.F, D_law_count.b, D_law_count.m⟩ LC D_law_fixed.m D_law_fixed.F.kp D_law_fixed.b XK2
  have XK4 := ok_fixed (d := 4) (by decide) (by decide) D_law_fixed.F (He.free_ok X G (c.fact 39 rfl)) (He.free_ok X G (c.fact 55 rfl)) ZK ⟨D_law_count.F, D_law_count.b, D_law_count.m⟩ LC D_law_fixed.m D_law_fixed.F.kp D_law_fixed.b XK3
  have XK5 := ok_fixed (d := 5) (by decide) (by decide) D_law_fixed.F (He.free_ok X G (c.fact 39 rfl)) (He.free_ok X G (c.fact 55 rfl)) ZK ⟨D_law_count.F, D_law_count.b, D_law_count.m⟩ LC D_law_fixed.m D_law_fixed.F.kp D_law_fixed.b XK4
  have XSZ : FnOk P w K mg base CX0 7 (He.ga K "_law_fixed") d_law_fixed p__law_fixed (spFx' (He.ga K "Strongs") (mkOf .S) 0) := ⟨fun _ _ _ _ h => h.elim, fun _ _ _ _ _ _ _ _ _ _ _ _ _ h => h.elim⟩
  have XS0 := ok_fixed (d := 0) (by decide) (by decide) D_law_fixed.F (He.free_ok X G (c.fact 39 rfl)) (He.free_ok X G (c.fact 55 rfl)) ZS ⟨D_law_count.F, D_law_count.b, D_law_count.m⟩ LC D_law_fixed.m D_law_fixed.F.kp D_law_fixed.b XSZ
  have XS1 := ok_fixed (d := 1) (by decide) (by decide) D_law_fixed.F (He.free_ok X G (c.fact 39 rfl)) (He.free_ok X G (c.fact 55 rfl)) ZS ⟨D_law_count.F, D_law_count.b, D_law_count.m⟩ LC D_law_fixed.m D_law_fixed.F.kp D_law_fixed.b XS0
  have XS2 := ok_fixed (d := 2) (by decide) (by decide) D_law_fixed.F (He.free_ok X G (c.fact 39 rfl)) (He.free_ok X G (c.fact 55 rfl)) ZS ⟨D_law_count.F, D_law_count.b, D_law_count.m⟩ LC D_law_fixed.m D_law_fixed.F.kp D_law_fixed.b XS1
  have XS3 := ok_fixed (d := 3) (by decide) (by decide) D_law_fixed.F (He.free_ok X G (c.fact 39 rfl)) (He.free_ok X G (c.fact 55 rfl)) ZS ⟨D_law_count.F, D_law_count.b, D_law_count.m⟩ LC D_law_fixed.m D_law_fixed.F.kp D_law_fixed.b XS2
  have XS4 := ok_fixed (d := 4) (by decide) (by decide) D_law_fixed.F (He.free_ok X G (c.fact 39 rfl)) (He.free_ok X G (c.fact 55 rfl)) ZS ⟨D_law_count.F, D_law_count.b, D_law_count.m⟩ LC D_law_fixed.m D_law_fixed.F.kp D_law_fixed.b XS3
  have XS5 := ok_fixed (d := 5) (by decide) (by decide) D_law_fixed.F (He.free_ok X G (c.fact 39 rfl)) (He.free_ok X G (c.fact 55 rfl)) ZS ⟨D_law_count.F, D_law_count.b, D_law_count.m⟩ LC D_law_fixed.m D_law_fixed.F.kp D_law_fixed.b XS4
  have XFZ : FnOk P w K mg base CX0 7 (He.ga K "_law_fixed") d_law_fixed p__law_fixed (spFx' (He.ga K "Fix") (mkOf .F) 0) := ⟨fun _ _ _ _ h => h.elim, fun _ _ _ _ _ _ _ _ _ _ _ _ _ h => h.elim⟩
  have XF0 := ok_fixed (d := 0) (by decide) (by decide) D_law_fixed.F (He.free_ok X G (c.fact 39 rfl)) (He.free_ok X G (c.fact 55 rfl)) ZF ⟨D_law_count.F, D_law_count.b, D_law_count.m⟩ LC D_law_fixed.m D_law_fixed.F.kp D_law_fixed.b XFZ
  have XF1 := ok_fixed (d := 1) (by decide) (by decide) D_law_fixed.F (He.free_ok X G (c.fact 39 rfl)) (He.free_ok X G (c.fact 55 rfl)) ZF ⟨D_law_count.F, D_law_count.b, D_law_count.m⟩ LC D_law_fixed.m D_law_fixed.F.kp D_law_fixed.b XF0
  have XF2 := ok_fixed (d := 2) (by decide) (by decide) D_law_fixed.F (He.free_ok X G (c.fact 39 rfl)) (He.free_ok X G (c.fact 55 rfl)) ZF ⟨D_law_count.F, D_law_count.b, D_law_count.m⟩ LC D_law_fixed.m D_law_fixed.F.kp D_law_fixed.b XF1
  have XF3 := ok_fixed (d := 3) (by decide) (by decide) D_law_fixed.F (He.free_ok X G (c.fact 39 rfl)) (He.free_ok X G (c.fact 55 rfl)) ZF ⟨D_law_count.F, D_law_count.b, D_law_count.m⟩ LC D_law_fixed.m D_law_fixed.F.kp D_law_fixed.b XF2
  have XF4 := ok_fixed (d := 4) (by decide) (by decide) D_law_fixed.F (He.free_ok X G (c.fact 39 rfl)) (He.free_ok X G (c.fact 55 rfl)) ZF ⟨D_law_count.F, D_law_count.b, D_law_count.m⟩ LC D_law_fixed.m D_law_fixed.F.kp D_law_fixed.b XF3
  have XF5 := ok_fixed (d := 5) (by decide) (by decide) D_law_fixed.F (He.free_ok X G (c.fact 39 rfl)) (He.free_ok X G (c.fact 55 rfl)) ZF ⟨D_law_count.F, D_law_count.b, D_law_count.m⟩ LC D_law_fixed.m D_law_fixed.F.kp D_law_fixed.b XF4
  have RK := ok_refused D_law_refused.F (He.free_ok X G (c.fact 45 rfl)) (He.free_ok X G (c.fact 56 rfl)) (He.free_ok X G (c.fact 57 rfl)) NX NZ (He.cls_ok (c.fact 49 rfl)) MaK.m AK MaK.b
  have RS := ok_refused D_law_refused.F (He.free_ok X G (c.fact 45 rfl)) (He.free_ok X G (c.fact 56 rfl)) (He.free_ok X G (c.fact 57 rfl)) NX NZ (He.cls_ok (c.fact 51 rfl)) MaS.m AS MaS.b
  have RF := ok_refused D_law_refused.F (He.free_ok X G (c.fact 45 rfl)) (He.free_ok X G (c.fact 56 rfl)) (He.free_ok X G (c.fact 57 rfl)) NX NZ (He.cls_ok (c.fact 53 rfl)) MaF.m AF MaF.b
  exact ok_law (cO := fun i => match i with
    | .K => He.ga K "Keeps"
    | .S => He.ga K "Strongs"
    | .F => He.ga K "Fix") Dlaw.F TB (He.free_ok X G (c.fact 39 rfl)) (He.free_ok X G (c.fact 58 rfl)) (He.free_ok X G (c.fact 38 rfl)) ⟨D_law_deck.F, D_law_deck.b, D_law_deck.m⟩ G1 ⟨D_law_draw.F, D_law_draw.b, D_law_draw.m⟩ G2 G2B ⟨D_law_program.F, D_law_program.b, D_law_program.m⟩ G9 ⟨D_law_count.F, D_law_count.b, D_law_count.m⟩ LC
    ⟨D_law_fixed.F, D_law_fixed.b, D_law_fixed.m⟩ (fun i => match i with
      | .K => XK5
      | .S => XS5
      | .F => XF5) ⟨D_law_refused.F, D_law_refused.b, D_law_refused.m⟩ (fun i => match i with
      | .K => RK
      | .S => RS
      | .F => RF) (fun i => match i with
      | .K => ZK
      | .S => ZS
      | .F => ZF) (fun i => match i with
      | .K => ⟨_, _, MaK.m, AK, MaK.b⟩
      | .S => ⟨_, _, MaS.m, AS, MaS.b⟩
      | .F => ⟨_, _, MaF.m, AF, MaF.b⟩) (fun i => match i with
      | .K => mkK
      | .S => mkS
      | .F => mkF) (He.glo_ok X G (c.fact 48 rfl)) (He.glo_ok X G (c.fact 50 rfl)) (He.glo_ok X G (c.fact 52 rfl))
end G

set_option Elab.async false
set_option linter.all false
set_option maxRecDepth 100000
set_option maxHeartbeats 0
namespace G
open PySem PySem.Spec PyProof.Rows L2
abbrev RR : PySem.W.OpenRow := PySem.W.OpenLaw.row PySem.Challenge.rw_maybegone_k79_programs_fixed
abbrev hk : PySem.W.Hook := hookS 5 fa fn ts ex
def ob (s : PySem.W.SharedT) : AlS := obsS 5 fa fn ts ex (HandSHeadRun.getT s)
theorem ob_eq (s : PySem.W.SharedT) : ob s = hk.obs s.abs := obsS_eq (HandSHeadRun.getT_eq s)
def loose : List PySem.Str := (["_wall", "GoneError", "NoPlace", "NoVersion", "is_integer", "blocks_of", "rows_of", "placed_block", "size_of", "_rebuilt_rows", "rebuilt", "each_statement", "statement_at", "_places_with", "make_places", "weak_places", "Fix", "Keeps", "Strongs", "_law_deck", "_law_draw", "_law_one", "_law_names", "_law_words", "_law_test", "_law_plain", "_law_body", "_law_program", "_law_count", "_law_fixed"] : List PySem.Str) ++ (["_law_refused"] : List PySem.Str)
theorem run0 (w : World) : HandSHeadRun.RunEq RR (PySem.W.view RR.prog [36]) hk ob 30000 loose (w.withFollow "special-get-raises" false) := by
  intro os
  kernel_rfl
theorem run1 (w : World) : HandSHeadRun.RunEq RR (PySem.W.view RR.prog [36]) hk ob 30000 loose (w.withFollow "special-get-raises" true) := by
  intro os
  kernel_rfl
theorem run (w : World) : HandSHeadRun.RunEq RR (PySem.W.view RR.prog [36]) hk ob 30000 loose w :=
  PySem.W.byRow2 "special-get-raises" (P := fun w => HandSHeadRun.RunEq RR (PySem.W.view RR.prog [36]) hk ob 30000 loose w) run0 run1 w
end G
open PySem PySem.W PySem.Calls PyProof.Rows
set_option maxRecDepth 100000 in
set_option maxHeartbeats 0 in
theorem PySem.Challenge.cw_maybegone_k79_programs_fixed_holds : PySem.Challenge.rw_maybegone_k79_programs_fixed.Holds := by
  w_on; o_law
  refine HandSHeadRun.head_any (r := OpenLaw.row PySem.Challenge.rw_maybegone_k79_programs_fixed) (q := view (OpenLaw.row PySem.Challenge.rw_maybegone_k79_programs_fixed).prog [36]) (H := _root_.G.hk) (ob := _root_.G.ob) (M := 30000) (loose := _root_.G.loose) (d := HandSHeadRun.topDef (OpenLaw.row PySem.Challenge.rw_maybegone_k79_programs_fixed).prog 36) (kwd := []) _root_.G.ob_eq
    (by kernel_rfl) (fun s => by kernel_rfl) _root_.G.run (by kernel_rfl) (by kernel_rfl) (by kernel_rfl) (by rfl) (by first | assumption | decide +kernel) (by decide +kernel) ⟨rfl, rfl, rfl, rfl, rfl, by decide +kernel⟩ ?hw ?hc
  case hw => w_witness2
  case hc =>
    refine _root_.G.walk_ofGE (l := PySem.Challenge.rw_maybegone_k79_programs_fixed) (n := 63) (k := 18) (x := "_law_script") rfl (by decide) (by kernel_rfl) ⟨rfl, by decide, by decide⟩ ?F
    intro w mg fa h Y Gn hmg0
    obtain ⟨K, KX, c⟩ := Y
    have hmg : mg ("law" : PySem.Str) = some (.ref fa) := by
      have e : (HandSHeadRun.topDef (OpenLaw.row PySem.Challenge.rw_maybegone_k79_programs_fixed).prog 36).name = ("law" : PySem.Str) := by kernel_rfl
      rw [← e]
      exact hmg0
    obtain ⟨fd, hb, hF⟩ := _root_.G.facts (P := (PySem.Challenge.rw_maybegone_k79_programs_fixed).prog) (w := w) KX Gn hmg c
    exact ⟨K, fd, KX, hb, hF⟩
