/- Merged texts: LaidChu, OpenLim, OpenBytes, OpenParts, Shaped. -/
import Derived.Test.YtbjfdakanhaagaaGreatDoorRows
import Derived.LaidLaws
import Derived.LaidHandle
import Derived.Lib.LaidTab
import Derived.Lib.LaidU8
import Derived.Stop.LaidErr
import Derived.ProofKit
import Derived.OpenShut
import Derived.ChangeSame
import Derived.Lib.SmallJoins
import Derived.Carry
import Derived.ChangeSlices
import Derived.SliceStrings
import Derived.Deep.DeepHandedRow
import Derived.JoinedCond
import Derived.SizedLaws
import Derived.Test.YtbjfdakanhaagaaGreatDoorBunG
import Derived.Test.YtbjfdakanhaagaaGreatDoorBunB
import Derived.Test.YtbjfdakanhaagaaGreatDoorBunF
/-! ## LaidChu -/
/- From the condition of a row of stage 14 (it lists math/bits' and strconv's tables, unicode/utf8's two and errors.errorType; it names internal/bytealg.MaxLen) to what the walks ask; a world that meets the condition. -/
namespace Go.Proofs.YtbjfdakanhaagaaGreatDoor
set_option linter.all false
open Go.RowKit

abbrev lB32 : String × DataW Unit := ("math/bits.deBruijn32tab", Rows.laid_math_bits_deBruijn32tab)
abbrev lB64 : String × DataW Unit := ("math/bits.deBruijn64tab", Rows.laid_math_bits_deBruijn64tab)
abbrev lPow : String × DataW Unit := ("internal/strconv.uint64pow10", Rows.laid_internal_strconv_uint64pow10)
abbrev lAcc : String × DataW Unit := ("unicode/utf8.acceptRanges", Rows.laid_unicode_utf8_acceptRanges)
abbrev lErr : String × DataW Unit := ("errors.errorType", Rows.laid_errors_errorType)
abbrev lFirst : String × DataW Unit := ("unicode/utf8.first", Rows.laid_unicode_utf8_first)
abbrev laidL : List (String × DataW Unit) := [lB32, lB64, lPow, lAcc, lErr, lFirst]
theorem laid_handles2 : (laidL.filter fun x => x.2.handleName?.isSome) = [lErr] := by kernel_rfl
theorem laid_data2 : (laidL.filter fun x => x.2.handleName?.isNone) = [lB32, lB64, lPow, lAcc, lFirst] := by kernel_rfl
theorem Tryz.gErr : Tryz.prog.globalNamed "errors.errorType" = some 0 := by kernel_rfl
theorem Tryz.gB64 : Tryz.prog.globalNamed "math/bits.deBruijn64tab" = some 3 := by kernel_rfl
theorem Tryz.tB64 : (Tryz.prog.globals[3]?).map (·.type) = some 167 := by kernel_rfl
theorem Tryz.cB64 : Tryz.prog.cellsOf 167 = 64 := by kernel_rfl
theorem Tryz.cU8 : Tryz.prog.cellsOf 5 = 1 := by kernel_rfl
theorem Tryz.uB64 : Tryz.prog.underlying 167 = some (.array 64 5) := by kernel_rfl
theorem Tryz.rt : (Tryz.prog.cutTypes.find? (·.1 == "internal/reflectlite.rtype")).map (·.2) = some 95 := by kernel_rfl
theorem Tryz.oneRow : ((List.range 204).filter fun t => Tryz.prog.rowNamed t [101, 114, 114, 111, 114]) = [28] := by kernel_rfl
theorem Tryz.tsize : Tryz.prog.types.size = 204 := by kernel_rfl

theorem errType_of_handle {W : World} (h : handlesMet Tryz.prog [lErr] W) : ErrType W := by
  obtain ⟨name, u, ty, e1, e2, e3, e4, e5⟩ := h _ (List.mem_singleton.2 rfl)
  have en : name = [101, 114, 114, 111, 114] := (Option.some.inj e1).symm
  subst en
  obtain rfl := Option.some.inj (Tryz.rt.symm.trans e2)
  have hm : ty ∈ (List.range 204).filter fun t => Tryz.prog.rowNamed t [101, 114, 114, 111, 114] := List.mem_filter.2 ⟨List.mem_range.2 (by rw [← Tryz.tsize]; exact e3), e4⟩
  rw [Tryz.oneRow] at hm
  obtain rfl := List.mem_singleton.1 hm
  have hh : typeHandle Tryz.prog 28 = .pointer (some ⟨7, 28, none⟩) := by kernel_rfl
  rw [hh] at e5
  have := World.var?_cell Tryz.gErr e5 0
  unfold ErrType
  simpa using this
theorem tab_of_reads {P : Program} {W : World} {name : String} {k : IntKind} {zs : List Int} {g : Nat} {t e : TypeId} {n : Nat}
    (hg : P.globalNamed name = some g) (hty : (P.globals[g]?).map (·.type) = some t) (ht : P.underlying t = some (.array n e)) (he : P.underlying e = some (.int k)) (hce : P.cellsOf e = 1) (hct : P.cellsOf t = n)
    (h : Lib.VarReads P W name (Lib.tabData k zs)) : Lib.TabIs P W name k zs := by
  obtain ⟨g', t', cs, fuel, p, hg', ht', hvar, hd⟩ := h
  obtain rfl := Option.some.inj (hg.symm.trans hg')
  obtain rfl := Option.some.inj (hty.symm.trans ht')
  unfold Lib.TabIs
  rw [hvar, ← Lib.cells_of_tab ht he hce hct hd]
def litI : DataW Unit → Int
  | .lit (.int _ n) => n
  | _ => 0
def litsI : DataW Unit → List Int
  | .agg l => l.map litI
  | _ => []
theorem data_b64 : (Rows.laid_math_bits_deBruijn64tab : DataW Unit) = Lib.tabData .u8 (litsI Rows.laid_math_bits_deBruijn64tab) := by kernel_rfl
theorem b64_len : (litsI Rows.laid_math_bits_deBruijn64tab).length = 64 := by kernel_rfl
theorem b64_15 : (litsI Rows.laid_math_bits_deBruijn64tab).getD 15 0 = 4 := by kernel_rfl
theorem deb_of_laid {W : World} (h : laidMet Tryz.prog [lB32, lB64, lPow, lAcc, lFirst] W) : Deb W := by
  have r1 := Lib.laidMet.reads h (n := "math/bits.deBruijn64tab") (.tail _ (.head _))
  rw [data_b64] at r1
  have t1 := tab_of_reads Tryz.gB64 Tryz.tB64 Tryz.uB64 Tryz.underlying5 Tryz.cU8 Tryz.cB64 r1
  have := t1.cell Tryz.gB64 15 (by rw [b64_len]; decide)
  rw [b64_15] at this
  exact this
theorem maxIn_of_shape {W : World} (h : W.ShapedOpen Tryz.prog) : MaxIn W := Tryz.laysM145.s1_3 W h
theorem glob_of_laid {W : World} (h : laidMetH Tryz.prog laidL W) (hs : W.ShapedOpen Tryz.prog) : GlobC W := by
  unfold laidMetH at h
  rw [laid_handles2, laid_data2] at h
  exact ⟨⟨errType_of_handle h.2, maxIn_of_shape hs⟩, deb_of_laid h.1⟩

/-- The variables as the program's text lays them. -/
def byteCell : DataW Unit → List Value
  | .lit (.int k n) => [.int k n]
  | _ => []
def pairCells : DataW Unit → List Value
  | .agg l => l.flatMap byteCell
  | d => byteCell d
def tabCells : DataW Unit → Array Value
  | .agg l => (l.flatMap pairCells).toArray
  | _ => #[]
def putCells (g : Nat) (cs : Array Value) (h : Array Obj) : Array Obj := h.modify g fun
  | .cells _ t frozen => .cells cs t frozen
  | o => o
def laidHeap (h : Array Obj) : Array Obj :=
  putCells 2 (tabCells Rows.laid_math_bits_deBruijn32tab) (putCells 3 (tabCells Rows.laid_math_bits_deBruijn64tab) (putCells 1 (tabCells Rows.laid_internal_strconv_uint64pow10)
    (putCells 5 (tabCells Rows.laid_unicode_utf8_first) (putCells 6 (tabCells Rows.laid_unicode_utf8_acceptRanges)
      (putCells 0 #[.iface 95 (.agg #[.pointer (some ⟨7, 28, none⟩)])] h)))))
noncomputable def laidWorld (os : Os) : World :=
  let w0 := World.holding Tryz.prog os ⟨#[], #[], []⟩
  { w0 with heap := laidHeap w0.heap }
theorem laidWorld_met (os : Os) (args : Array Value) : laidMetH Tryz.prog laidL ((laidWorld os).forCall (fun _ _ => 0) ⟨#[], args, []⟩).memory := by
  refine laidMetH_of_parts ?_ (by kernel_rfl)
  rw [laid_data2]
  exact laidMet_of_run' 8 (by kernel_rfl) (by kernel_rfl)
end Go.Proofs.YtbjfdakanhaagaaGreatDoor

/-! ## OpenLim -/
/- Limits that came in are limits of the walk. -/
namespace Go.Proofs.YtbjfdakanhaagaaGreatDoor
open Go.ChangeShapes Go.WideShapes Go.ChangeAt Go.RowKit
set_option linter.all false

theorem Tryz.cellsLim : Tryz.prog.cellsOf 24 = 4 := by kernel_rfl
set_option maxRecDepth 100000 in
theorem lim_of_open {H : Type} {enc : TypeId × Value → H} {W : World} {v : Value} {d : DataW H} {p : List MemPlace} {r : Reach} {base : Nat} (hv : Value.okWide Tryz.prog W r base 24 v)
    (h : DataW.Trod enc Tryz.prog W 0 (fun _ => true) true 24 v d p) : ∃ l : Lim, v = limV l := by
  obtain ⟨v0, v1, v2, v3, y0, y1, y2, y3, n, rfl, _, _, h0, h1, h2, h3⟩ := Joins.open_agg4 Tryz.underlying24 (by kernel_rfl) Tryz.cellsLim hv h
  obtain ⟨z0, c0, _, _⟩ := DataW.trod_int Tryz.underlying3 h0
  obtain ⟨z1, c1, _, _⟩ := DataW.trod_int Tryz.underlying3 h1
  obtain ⟨z2, c2, _, _⟩ := DataW.trod_int Tryz.underlying3 h2
  obtain ⟨z3, c3, _, _⟩ := DataW.trod_int Tryz.underlying3 h3
  injection c0 with c0
  injection c1 with c1
  injection c2 with c2
  injection c3 with c3
  subst c0 c1 c2 c3
  exact ⟨⟨z0, z1, z2, z3⟩, rfl⟩
end Go.Proofs.YtbjfdakanhaagaaGreatDoor

/-! ## OpenBytes -/
/- A slice of bytes that came in is a slice of bytes of the walk. -/
namespace Go.Proofs.YtbjfdakanhaagaaGreatDoor
open Go.ChangeShapes Go.WideShapes Go.ChangeAt Go.RowKit
set_option linter.all false

theorem Tryz.laidOut : laidOutB Tryz.prog = true := by kernel_rfl
theorem Tryz.cellsByte : Tryz.prog.cellsOf 5 = 1 := by kernel_rfl
theorem bytes_of_open {H : Type} {enc : TypeId × Value → H} {W : World} {v : Value} {d : DataW H} {p : List MemPlace} (hv : ∃ a len cap, v = .slice a len cap)
    (h : DataW.Trod enc Tryz.prog W 0 (fun _ => true) true 22 v d p) : ∃ l, BytesIn W v l ∧ l.length ≤ 9223372036854775807 := by
  obtain ⟨a0, len0, cap0, rfl⟩ := hv
  obtain ⟨fuel, hf⟩ := h
  have hf' : DataW.trod enc Tryz.prog W 0 (fun _ => true) true fuel 22 [.slice a0 len0 cap0] = some (d, p) := hf
  rcases open_ints Tryz.underlying22 Tryz.underlying5 Tryz.cellsByte hf' with ⟨hcs, _⟩ | ⟨a, len, cap, zs, hcs, _, hl, hm, hz, _, hcell, hwz⟩
  · simp at hcs
    obtain ⟨rfl, rfl, rfl⟩ := hcs
    exact ⟨[], .inl ⟨rfl, .inl rfl⟩, by simp⟩
  · simp at hcs
    obtain ⟨rfl, rfl, rfl⟩ := hcs
    simp only [if_true] at hz
    unfold maxLen at hm
    have hlen : (zs.take len0).length = len0 := by rw [List.length_take]; omega
    by_cases h0 : len0 = 0
    · subst h0
      exact ⟨[], .inl ⟨rfl, .inr ⟨a, cap0, rfl⟩⟩, by simp⟩
    · obtain ⟨b, off, sp⟩ := a
      have hc0 := hcell 0 (by omega)
      have hsp : sp = none := by
        cases sp with
        | none => rfl
        | some y =>
          exfalso
          simp only [World.cell?, Addr.add] at hc0
          split at hc0 <;> simp at hc0
      subst hsp
      refine ⟨(zs.take len0).map fun z => UInt8.ofNat z.toNat, .inr ⟨b, off, cap0, by rw [byteVals_len, List.length_map, hlen], by rw [byteVals_len, List.length_map, hlen]; exact hl, hm, fun i u hu => ?_⟩, by rw [List.length_map, hlen]; omega⟩
      have hi : i < len0 := by
        have := (List.getElem?_eq_some_iff.1 hu).1
        rw [byteVals_len, List.length_map, hlen] at this; exact this
      have hci := hcell i (by omega)
      have ea : (⟨b, off, none⟩ : Addr).add i = ⟨b, off + i, none⟩ := Addr.add_lit ..
      rw [ea] at hci
      rw [hci]
      have hzi : i < zs.length := by omega
      have hw := hwz zs[i] (List.getElem_mem hzi)
      have hw' : 0 ≤ zs[i] ∧ zs[i] ≤ 255 := by simp only [Lit.wf, Bool.and_eq_true, decide_eq_true_eq] at hw; exact hw
      have hb : ((UInt8.ofNat zs[i].toNat).toNat : Int) = zs[i] := by rw [UInt8.toNat_ofNat']; omega
      simp [byteVals, List.getElem?_take, hi, hzi] at hu
      rw [← hu]
      simp [List.getD, hzi]
      omega
end Go.Proofs.YtbjfdakanhaagaaGreatDoor

/-! ## OpenParts -/
/- A slice of slices of bytes that came in is a list of parts of the walk. -/
namespace Go.Proofs.YtbjfdakanhaagaaGreatDoor
open Go.ChangeShapes Go.WideShapes Go.ChangeAt Go.RowKit
set_option linter.all false

theorem Tryz.uBytes2 : Tryz.prog.underlying 41 = some (.slice 22) := by kernel_rfl
theorem Tryz.cellsBytes : Tryz.prog.cellsOf 22 = 1 := by kernel_rfl
set_option maxRecDepth 100000 in
theorem parts_of_open {H : Type} {enc : TypeId × Value → H} {W : World} {v : Value} {d : DataW H} {p : List MemPlace} (hv : ∃ a len cap, v = .slice a len cap)
    (h : DataW.Trod enc Tryz.prog W 0 (fun _ => true) true 41 v d p) : ∃ L, PartsIn W v L ∧ L.length ≤ 9223372036854775807 := by
  obtain ⟨a0, len0, cap0, rfl⟩ := hv
  obtain ⟨fuel, hf⟩ := h
  have hf' : DataW.trod enc Tryz.prog W 0 (fun _ => true) true fuel 41 [.slice a0 len0 cap0] = some (d, p) := hf
  rcases DataW.trod_slice Tryz.uBytes2 hf' with ⟨hcs, _⟩ | ⟨a, len, cap, elems, rest, n, _, hcs, _, _, hl, hm, hel, hat, _, _⟩
  · simp at hcs
    obtain ⟨rfl, rfl, rfl⟩ := hcs
    exact ⟨[], ⟨[], rfl, .inl ⟨rfl, .inl rfl⟩, fun i hi => by simp at hi⟩, by simp⟩
  · simp at hcs
    obtain ⟨rfl, rfl, rfl⟩ := hcs
    unfold maxLen at hm
    have each : ∀ i, i < len0 → ∃ (u : Value) (l : List UInt8), W.cell? (a.add i) = some u ∧ BytesIn W u l := by
      intro i hi
      have h1 := hat i hi
      rw [Tryz.cellsBytes, Nat.mul_one, List.getElem?_eq_getElem (by omega), Option.bind_eq_some_iff] at h1
      obtain ⟨cs, hc, hy⟩ := h1
      obtain ⟨_, hlen, hcell⟩ := World.cells?_some hc
      obtain ⟨u, hu⟩ : ∃ u, cs = [u] := by
        match cs, hlen with
        | [u], _ => exact ⟨u, rfl⟩
      subst hu
      have hc0 : W.cell? (a.add i) = some u := by
        have := hcell 0 (by decide)
        rw [add_zero'] at this
        simpa using this
      have hslice : ∃ a len cap, u = .slice a len cap := by
        rcases DataW.trod_slice Tryz.underlying22 hy with ⟨hcs, _⟩ | ⟨a', len', cap', _, _, _, _, hcs, _⟩
        · simp at hcs; exact ⟨_, _, _, hcs⟩
        · simp at hcs; exact ⟨_, _, _, hcs⟩
      obtain ⟨a', l', c', rfl⟩ := hslice
      obtain ⟨l, hl, _⟩ := bytes_of_open (W := W) (v := .slice a' l' c') (d := (elems[i]'(by omega)).1) (p := (elems[i]'(by omega)).2) ⟨_, _, _, rfl⟩ ⟨_, hy⟩
      exact ⟨_, l, hc0, hl⟩
    by_cases h0 : len0 = 0
    · subst h0
      exact ⟨[], ⟨[], rfl, .inl ⟨rfl, .inr ⟨a, cap0, rfl⟩⟩, fun i hi => by simp at hi⟩, by simp⟩
    · obtain ⟨b, off, sp⟩ := a
      have hsp : sp = none := by
        obtain ⟨u, l, hc0, _⟩ := each 0 (by omega)
        cases sp with
        | none => rfl
        | some y =>
          exfalso
          simp only [World.cell?, Addr.add] at hc0
          split at hc0 <;> simp at hc0
      subst hsp
      have build : ∀ k, k ≤ len0 → ∃ (us : List Value) (L : List (List UInt8)), us.length = k ∧ L.length = k ∧ (∀ i u, us[i]? = some u → W.cell? ⟨b, off + i, none⟩ = some u) ∧ ∀ i (hi : i < L.length), ∃ u, us[i]? = some u ∧ BytesIn W u L[i] := by
        intro k
        induction k with
        | zero => exact fun _ => ⟨[], [], rfl, rfl, fun i u hu => by simp at hu, fun i hi => by simp at hi⟩
        | succ k ih =>
          intro hk
          obtain ⟨us, L, hu, hL, hc, hb⟩ := ih (by omega)
          obtain ⟨u, l, c0, hl⟩ := each k (by omega)
          rw [Addr.add_lit] at c0
          refine ⟨us ++ [u], L ++ [l], by simp [hu], by simp [hL], fun i x hx => ?_, fun i hi => ?_⟩
          · by_cases hi : i < us.length
            · rw [List.getElem?_append_left hi] at hx
              exact hc i x hx
            · have hi2 : i = us.length := by
                have := (List.getElem?_eq_some_iff.1 hx).1
                simp at this; omega
              subst hi2
              rw [List.getElem?_append_right (Nat.le_refl _), Nat.sub_self] at hx
              simp at hx
              subst hx
              rw [hu]; exact c0
          · by_cases hi2 : i < L.length
            · obtain ⟨x, hx, hy⟩ := hb i hi2
              refine ⟨x, ?_, ?_⟩
              · rw [List.getElem?_append_left (by omega)]; exact hx
              · rw [List.getElem_append_left hi2]; exact hy
            · have hi3 : i = L.length := by simp at hi; omega
              subst hi3
              refine ⟨u, ?_, ?_⟩
              · rw [List.getElem?_append_right (by omega), hu, hL, Nat.sub_self]; rfl
              · rw [List.getElem_append_right (Nat.le_refl _)]
                simpa using hl
      obtain ⟨us, L, hu, hL, hc, hb⟩ := build len0 (Nat.le_refl _)
      exact ⟨L, ⟨us, by omega, .inr ⟨b, off, cap0, by rw [hu], by omega, hm, hc⟩, hb⟩, by omega⟩
end Go.Proofs.YtbjfdakanhaagaaGreatDoor

/-! ## Shaped -/
/- GENERAL. A row that lists variables, with the world's shape handed to the contract: a variable of the library's that is named but not listed holds a value of its type. -/
namespace Go.Proofs.YtbjfdakanhaagaaGreatDoor
set_option linter.all false
variable {H : Type} {enc : TypeId × Value → H}

/-- The first form of a row is the second one's with nothing asked of the reading. -/
theorem handed_shaped {C : Checked} {os : Os} {f : FuncId} {fn : Func} {s : ChangeSpec} {laid : List (String × DataW Unit)} {F : Stop.Interp}
    (own : ownKnob C.prog.godebug = none) (started : os.Started) (noInit : C.prog.inits.idxOf? f = none) (hfn : C.prog.funcs[f]? = some fn)
    (witness : ∃ (w : World) (tape : Tape) (i : Input), w.os = os ∧ (w.forCall tape i).Shaped C.prog ∧ i.vars = [] ∧ Input.okWide C.prog (w.forCall tape i) .any w.heap.size f i ∧
      ((s.pre enc C.prog fn [] false (w.forCall tape i).memory i.args ∧ laidMetH C.prog laid (w.forCall tape i).memory) ∧ sizedMet enc C.prog fn (OpenSpec.ofChange s) false (w.forCall tape i).memory i.args) ∧ Assume.holds {} C.prog (lone (Frame.enter C.prog f i.args .normal) [] (w.forCall tape i)))
    (contract : ∀ (W : World) (base : Nat) (args : Array Value) (ds gs : List (DataW H)) (before : List MemPlace),
      (∀ (j : Nat) t v, fn.params[j]? = some t → args[j]? = some v → Value.okWide C.prog W .any base t v) →
      DataW.Whole enc C.prog fn.params.toList s.vars false W args.toList ds gs before → laidMetH C.prog laid W → W.ShapedOpen C.prog →
      (DataW.weightsEach C.prog (fn.params.toList ++ (OpenSpec.ofChange s).bare.plain.varTypes C.prog) (ds ++ gs)).all (· ≤ reachBytes) = true →
      Calls C.prog f args W fun e W' => ∃ v, e = .returned v ∧ s.post enc C.prog fn false true false false W args v W') :
    ReturnsInHanded {} C os f .any (fun w args => (s.pre enc C.prog fn [] false w args ∧ laidMetH C.prog laid w) ∧ sizedMet enc C.prog fn (OpenSpec.ofChange s) false w args) (s.post enc C.prog fn false true false false) := by
  have key := returnsInHanded_of_row (enc := enc) (C := C) (os := os) (fn := fn) (s := OpenSpec.ofChange s) (F := F) (conds := []) (apart := false) (fresh := true) (handsOn := false) (again := false) (laid := laid) own started noInit hfn
    (by exact witness) (fun W base args ds gs before hval hW _ _ hz hL hsh _ => contract W base args ds gs before hval hW hL hsh hz)
  exact key
end Go.Proofs.YtbjfdakanhaagaaGreatDoor
