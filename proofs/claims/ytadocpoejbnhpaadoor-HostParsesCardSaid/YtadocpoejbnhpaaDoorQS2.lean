/- Texts of one seat, merged: TgtA, FldB, TgtB, TgtC. -/
import Derived.Test.YtadocpoejbnhpaaDoorQB
import Derived.Test.YtadocpoejbnhpaaDoorQShelf
import Derived.Test.YtadocpoejbnhpaaDoorQE3
import Derived.Test.YtadocpoejbnhpaaDoorQF
import Derived.Test.YtadocpoejbnhpaaDoorQS1
namespace Go.Proofs.YtadocpoejbnhpaaDoor
set_option linter.all false
open Go.RowKit
end Go.Proofs.YtadocpoejbnhpaaDoor
namespace Go.Proofs.YtadocpoejbnhpaaDoor
set_option linter.all false
open Go.RowKit
end Go.Proofs.YtadocpoejbnhpaaDoor
namespace Go.Proofs.YtadocpoejbnhpaaDoor
set_option linter.all false
open Go.RowKit
theorem results_cell0T {P : Program} {T : TypeId} {n : Nat} (hs : (P.info? T).map (·.size) = some n) (hagg : ∀ w, (isAgg T).run P w = .ok true w) {fn : Func} {p : Tmp} (h : fn.results = #[.cell p T]) (tmps : Array Value) (w : World)
    {g : Nat} {vs : List Value} (hp : tmps.getD p undef = .pointer (some ⟨g, 0, none⟩)) (hv : ValsAt w g vs) (hl : vs.length = n) : (results fn tmps).run P w = .ok (.agg vs.toArray) w := by
  have hp' : tmps[p]?.getD undef = .pointer (some ⟨g, 0, none⟩) := by simpa using hp
  simp [results, h, hp', asAddr, hv.load T hs hagg hl]
def tgtL (k : Int) (h : ByteArray) (x : Value) (d : Bool) (q : ByteArray) (b : Bool) : List Value := [.int .i64 k, .string h, x, .bool d, .string q, .bool b]
def tgtZ : List Value := tgtL 0 ⟨#[]⟩ (.slice none 0 0) false ⟨#[]⟩ false
def TgtV (w : World) (v : Value) (t : Tgt) : Prop := ∃ x, v = .agg #[.int .i64 t.kind, .string t.host, x, .bool t.path.2, .string t.query, .bool t.has] /\ StrsIn w x t.path.1
theorem TgtV.below {w w' : World} {v : Value} {t : Tgt} (h : TgtV w v t) (hb : Below w.heap.size w w') : TgtV w' v t := by
  obtain ⟨x, rfl, hx⟩ := h
  exact ⟨x, rfl, hx.below hb⟩
theorem TgtV.zero (w : World) : TgtV w (.agg tgtZ.toArray) Tgt.zero := ⟨_, rfl, .inl ⟨rfl, .inl rfl⟩⟩
def TgtO (B : Nat) (w : World) (v : Value) (t : Tgt) : Prop := ∃ x, v = .agg #[.int .i64 t.kind, .string t.host, x, .bool t.path.2, .string t.query, .bool t.has] /\ OwnStrs w B x t.path.1
theorem TgtO.zero (B : Nat) (w : World) : TgtO B w (.agg tgtZ.toArray) Tgt.zero := ⟨_, rfl, OwnStrs.nil _ _⟩
theorem TgtO.only {S : Nat -> Prop} {w w' : World} {B : Nat} {v : Value} {t : Tgt} (h : TgtO B w v t) (ho : Only S w w') (hS : ∀ k, S k -> k < B) : TgtO B w' v t := by
  obtain ⟨x, rfl, hx⟩ := h
  exact ⟨x, rfl, hx.only ho hS⟩
def nForm : ByteArray := ⟨#[102, 111, 114, 109]⟩
def nPath : ByteArray := ⟨#[112, 97, 116, 104]⟩
def nQuery : ByteArray := ⟨#[113, 117, 101, 114, 121]⟩
def ErrV (w : World) (r : Except TErr Tgt) (v : Value) : Prop := match r with
  | .ok _ => v = .nilIface
  | .error .form => Chn w [nForm] (baseS 400) v
  | .error (.path k) => Chn w [nPath] (baseF 400 (k : Int)) v
  | .error (.query k) => Chn w [nQuery] (baseF 400 (k : Int)) v
theorem ErrV.below {w w' : World} (hb : Below w.heap.size w w') : ∀ {r : Except TErr Tgt} {v : Value}, ErrV w r v -> ErrV w' r v
  | .ok _, _, h => h
  | .error .form, _, h => Chn.below hb h
  | .error (.path _), _, h => Chn.below hb h
  | .error (.query _), _, h => Chn.below hb h
theorem Chn.put {w w2 : World} {g : Nat} {n : ByteArray} {base v : Value} {k : Int} (h : Chn w [n] base v) (hc : w.cell? ⟨g, 0, none⟩ = some (.int .i64 k)) (ho : Only (fun j => j = g) w w2) : Chn w2 [n] base v := by
  obtain ⟨b, inner, rfl, h1, h2, h3⟩ := h
  have hb : ¬ b = g := by
    rintro rfl
    rw [hc] at h1
    cases h1
  exact ⟨b, inner, rfl, ho.cell h1 hb, ho.cell h2 hb, h3⟩
theorem ErrV.put {w w2 : World} {g : Nat} {k : Int} (hc : w.cell? ⟨g, 0, none⟩ = some (.int .i64 k)) (ho : Only (fun j => j = g) w w2) : ∀ {r : Except TErr Tgt} {v : Value}, ErrV w r v -> ErrV w2 r v
  | .ok _, _, h => h
  | .error .form, _, h => Chn.put h hc ho
  | .error (.path _), _, h => Chn.put h hc ho
  | .error (.query _), _, h => Chn.put h hc ho
theorem only_cell {w w' : World} {g : Nat} (h : Only (fun k => k = g) w w') {B : Nat} (hB : B <= w.heap.size) (hg : B <= g) : Below B w w' := h.below B hB fun k hk => by subst hk; exact hg
def NamedAt (w : World) (n : ByteArray) (base : Value) (b : Nat) : Prop := w.cell? ⟨b, 0, none⟩ = some (.string n) /\ w.cell? ⟨b, 1, none⟩ = some base
theorem NamedAt.chn {w : World} {n : ByteArray} {base : Value} {b : Nat} (h : NamedAt w n base b) : Chn w [n] base (.iface 95 (.pointer (some ⟨b, 0, none⟩))) := ⟨b, _, rfl, h.1, h.2, rfl⟩
theorem NamedAt.only {S : Nat -> Prop} {w w' : World} {n : ByteArray} {base : Value} {b : Nat} (h : NamedAt w n base b) (ho : Only S w w') (hS : ¬ S b) : NamedAt w' n base b := ⟨ho.cell h.1 hS, ho.cell h.2 hS⟩
def InTo (n : ByteArray) (base : Value) (w : World) (e : Ending) (w' : World) : Prop := e = .returned (.iface 95 (.pointer (some ⟨w.heap.size, 0, none⟩))) /\ NamedAt w' n base w.heap.size /\ Below w.heap.size w w'
theorem in_named (p : ByteArray) (t : TypeId) (x : Value) (w : World) : Calls Tryd.prog 37 #[.string p, .iface t x] w (InTo p (.iface t x) w) := by
  refine (in_some p t x w).mono ?_
  rintro e w' ⟨rfl, rfl⟩
  exact ⟨rfl, ⟨by simp, by simp⟩, (Below.refl _ _).alloc (Nat.le_refl _) _⟩
theorem Only.put {S : Nat -> Prop} {a b : World} (h : Only S a b) (g o : Nat) (v : Value) (hg : S g) : Only S a (b.setCell ⟨g, o, none⟩ v) := h.setCell (p := ⟨g, o, none⟩) (fun _ => hg) v
end Go.Proofs.YtadocpoejbnhpaaDoor
namespace Go.Proofs.YtadocpoejbnhpaaDoor
set_option linter.all false
open Go.RowKit
end Go.Proofs.YtadocpoejbnhpaaDoor
